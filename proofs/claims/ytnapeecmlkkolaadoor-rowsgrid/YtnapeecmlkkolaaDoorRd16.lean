/-
  The reader: a table without its rows.
-/
import Derived.Test.YtnapeecmlkkolaaDoorRd15
namespace Go.Proofs.YtnapeecmlkkolaaDoor
open Go.RowKit
set_option maxRecDepth 100000
set_option linter.unusedVariables false
set_option linter.unusedSimpArgs false

theorem blk6 {w : World} {p : Nat} {a b c d e f : Value} {t : TypeId} (h : w.heap[p]? = some (.cells #[a, b, c, d, e, f] t (0, 0))) :
    (w.cell? ⟨p, 0, none⟩ = some a ∧ w.cell? ⟨p, 1, none⟩ = some b ∧ w.cell? ⟨p, 2, none⟩ = some c ∧ w.cell? ⟨p, 3, none⟩ = some d ∧ w.cell? ⟨p, 4, none⟩ = some e ∧ w.cell? ⟨p, 5, none⟩ = some f) ∧
    (w.frozen? ⟨p, 0, none⟩ = false ∧ w.frozen? ⟨p, 1, none⟩ = false ∧ w.frozen? ⟨p, 2, none⟩ = false ∧ w.frozen? ⟨p, 3, none⟩ = false ∧ w.frozen? ⟨p, 4, none⟩ = false ∧ w.frozen? ⟨p, 5, none⟩ = false) :=
  ⟨⟨blk_cell h 0, blk_cell h 1, blk_cell h 2, blk_cell h 3, blk_cell h 4, blk_cell h 5⟩, ⟨blk_frozen h 0, blk_frozen h 1, blk_frozen h 2, blk_frozen h 3, blk_frozen h 4, blk_frozen h 5⟩⟩

theorem IsBF.apart {F K : Nat → Prop} {w W : World} {a : Option Addr} {l c : Nat} {zs : List Int} (h : IsBF F w a l c zs) (hK : Kept K w W) (hn : ∀ k, k < w.heap.size → F k → ¬ K k) : IsBF F W a l c zs :=
  h.stay (fun k hk hf => hK.block k hk (hn k hk hf)) hK.size (fun _ _ hf => hf)
theorem isBF_nil (F : Nat → Prop) (w : World) : IsBF F w none 0 0 [] := ⟨isB_nil _, fun q hq => by cases hq⟩

theorem table_step (f n : Int) (S : BE) : stepR (tableR f n) S = stepR (optR (!bitX f 4) [] (colsR n.toNat (bitX f 1))) (stepR (optR (bitX f 2) v0 valueR) S) := by
  rw [tableR, step_bind, step_bind, step_pure2]
theorem table_val {f n : Int} {S : BE} (h : (stepR (tableR f n) S).2 = 0) :
    (tableR f n S.1).val = (n, (optR (!bitX f 4) [] (colsR n.toNat (bitX f 1)) (stepR (optR (bitX f 2) v0 valueR) S).1).val, bitX f 2, (optR (bitX f 2) v0 valueR S.1).val, []) := by
  rw [tableR] at h ⊢
  rw [bind_val _ _ _ h]
  rw [step_bind] at h
  rw [bind_val _ _ _ h]
  rfl
theorem sNums_empty : sNums ByteArray.empty = [] := rfl

set_option maxHeartbeats 2000000 in
theorem rtable_n_no {w : World} {p : Nat} {S : BE} (h : Rd w p S) (hT : Tab w) (hp0 : 0 < p) {f : Int} {n : Nat} (hn : n ≤ 4096) (h2 : bitX f 2 = false) (h4 : bitX f 4 = true) :
    Calls Tryd.prog 21 #[.pointer (some ⟨p, 0, none⟩), .int .i64 f, .int .i64 n] w fun e w' => ∃ (ca : Option Addr) (cl cc : Nat) (L : List Col) (V : Vl) (x : Option Addr) (lx cx : Nat), e = .returned (.agg #[.int .i64 n, .slice ca cl cc, .bool false, .int .i64 V.1, .slice x lx cx, .slice none 0 0]) ∧ Hid (Rd w' p (stepR (tableR f n) S)) ∧ Hid (OwnI 64 8 (VCol 20) w' (fun k => w.heap.size ≤ k) (.slice ca cl cc) L) ∧ Hid (IsBF (fun k => w.heap.size ≤ k) w' x lx cx (sNums V.2)) ∧
      Hid ((stepR (tableR f n) S).2 = 0 → (((n : Nat) : Int), L, false, V, []) = (tableR f n S.1).val) ∧ Hid (Kept (fun k => k = p) w w') := by
  have hlt := h.lt
  obtain ⟨q, hq⟩ : ∃ q, q = w.heap.size := ⟨_, rfl⟩
  have HQE : Hid (w.heap.size = q) := hq.symm
  obtain ⟨w0, hw0⟩ : ∃ w0, w0 = (w.alloc (.cells #[.int .i64 0, .slice none 0 0, .bool false, .int .i64 0, .slice none 0 0, .slice none 0 0] 29)).alloc (.cells #[.int .i64 n, .slice none 0 0, .bool false, .int .i64 0, .slice none 0 0, .slice none 0 0] 29) := ⟨_, rfl⟩
  have HW0 : Hid ((w.alloc (.cells #[.int .i64 0, .slice none 0 0, .bool false, .int .i64 0, .slice none 0 0, .slice none 0 0] 29)).alloc (.cells #[.int .i64 n, .slice none 0 0, .bool false, .int .i64 0, .slice none 0 0, .slice none 0 0] 29) = w0) := hw0.symm
  have hB0 : Below w.heap.size w w0 := by rw [hw0]; exact (below_one _ _).alloc (by simp) _
  have hz0 : w0.heap[q]? = some (.cells #[.int .i64 0, .slice none 0 0, .bool false, .int .i64 0, .slice none 0 0, .slice none 0 0] 29 (0, 0)) := by
    rw [hw0, hq]
    exact ((below_one (w.alloc (.cells #[.int .i64 0, .slice none 0 0, .bool false, .int .i64 0, .slice none 0 0, .slice none 0 0] 29)) _).block w.heap.size (by simp)).trans (heap_alloc_new w _)
  have ht0 : w0.heap[q + 1]? = some (.cells #[.int .i64 n, .slice none 0 0, .bool false, .int .i64 0, .slice none 0 0, .slice none 0 0] 29 (0, 0)) := by
    rw [hw0, hq]
    have := heap_alloc_new (w.alloc (.cells #[.int .i64 0, .slice none 0 0, .bool false, .int .i64 0, .slice none 0 0, .slice none 0 0] 29)) (.cells #[.int .i64 n, .slice none 0 0, .bool false, .int .i64 0, .slice none 0 0, .slice none 0 0] 29)
    simpa using this
  have HZ0 : Hid _ := hz0
  have HT0 : Hid _ := ht0
  have HB0 : Hid (Below w.heap.size w w0) := hB0
  have HR0 : Hid (Rd w0 p S) := h.new hB0
  have HTB : Hid (Tab w0) := hT.old hB0
  have hpq : p < q := by omega
  obtain ⟨⟨a0, a1, a2, a3, a4, a5⟩, af0, af1, af2, af3, af4, af5⟩ := blk6 hz0
  obtain ⟨⟨b0, b1, b2, b3, b4, b5⟩, bf0, bf1, bf2, bf3, bf4, bf5⟩ := blk6 ht0
  have hla := block_lt hz0
  have hlb := block_lt ht0
  have HH2 : Hid _ := h2
  have HH4 : Hid _ := h4
  have t2 : (bits .and .i64 f 2 != 0) = false := h2
  have t4 : (bits .and .i64 f 4 == 0) = false := by have := h4; unfold bitX at this; simpa using this
  clear h hT hw0 hB0 hq h2 h4 hz0 ht0
  go_enter Tryd.func21, Tryd.ntmps21
  go_upto_region 2 with fail
  rw [HW0.out]
  clear HW0
  (try rw [HQE.out])
  obtain ⟨w2, hw2⟩ : ∃ w2, w2 = w0 := ⟨_, rfl⟩
  rw [← hw2] at HZ0 HT0 HR0 HTB HB0 hla hlb a0 a1 a2 a3 a4 a5 af0 af1 af2 af3 af4 af5 b0 b1 b2 b3 b4 b5 bf0 bf1 bf2 bf3 bf4 bf5 ⊢
  clear hw2
  have HZ2 := HZ0
  have HT2 := HT0
  have HR2 := HR0
  have HTB2 := HTB
  have HK2 : Hid (Kept (fun k => k = p) w w2) := kept_of HB0.out
  have hla2 := hla
  have hlb2 := hlb
  have HX2 : Hid (IsBF (fun k => q + 1 < k) w2 none 0 0 (sNums v0.2)) := isBF_nil _ _
  obtain ⟨S1, hS1⟩ : ∃ S1, S1 = S := ⟨_, rfl⟩
  have HSS : Hid (stepR (optR (bitX f 2) v0 valueR) S = S1) := by rw [HH2.out, hS1]; exact step_opt_no _ _ HR0.out.nrm
  have HVV : Hid (S1.2 = 0 → v0 = (optR (bitX f 2) v0 valueR S.1).val) := by rw [HH2.out]; exact fun _ => rfl
  rw [← hS1] at HR2
  clear hS1 HZ0 HT0 HR0 HTB HB0
  go_wp2_with fail
  have hKC : Kept (fun k => k = q) w2 ((((((w2.setCell ⟨q, 0, none⟩ (.int .i64 n)).setCell ⟨q, 1, none⟩ (.slice none 0 0)).setCell ⟨q, 2, none⟩ (.bool false)).setCell ⟨q, 3, none⟩ (.int .i64 0)).setCell ⟨q, 4, none⟩ (.slice none 0 0)).setCell ⟨q, 5, none⟩ (.slice none 0 0)) := ((((((Kept.refl (fun k => k = q) w2).setCell (p := ⟨q, 0, none⟩) (fun _ => rfl) _).setCell (p := ⟨q, 1, none⟩) (fun _ => rfl) _).setCell (p := ⟨q, 2, none⟩) (fun _ => rfl) _).setCell (p := ⟨q, 3, none⟩) (fun _ => rfl) _).setCell (p := ⟨q, 4, none⟩) (fun _ => rfl) _).setCell (p := ⟨q, 5, none⟩) (fun _ => rfl) _
  have hzC : ((((((w2.setCell ⟨q, 0, none⟩ (.int .i64 n)).setCell ⟨q, 1, none⟩ (.slice none 0 0)).setCell ⟨q, 2, none⟩ (.bool false)).setCell ⟨q, 3, none⟩ (.int .i64 0)).setCell ⟨q, 4, none⟩ (.slice none 0 0)).setCell ⟨q, 5, none⟩ (.slice none 0 0)).heap[q]? = some (.cells #[.int .i64 n, .slice none 0 0, .bool false, .int .i64 0, .slice none 0 0, .slice none 0 0] 29 (0, 0)) := blk_set ((blk_set ((blk_set ((blk_set ((blk_set ((blk_set (HZ2.out) 0 (.int .i64 n))) 1 (.slice none 0 0))) 2 (.bool false))) 3 (.int .i64 0))) 4 (.slice none 0 0))) 5 (.slice none 0 0)
  generalize (((((w2.setCell ⟨q, 0, none⟩ (.int .i64 n)).setCell ⟨q, 1, none⟩ (.slice none 0 0)).setCell ⟨q, 2, none⟩ (.bool false)).setCell ⟨q, 3, none⟩ (.int .i64 0)).setCell ⟨q, 4, none⟩ (.slice none 0 0)).setCell ⟨q, 5, none⟩ (.slice none 0 0) = wC at hKC hzC ⊢
  obtain ⟨⟨z0, z1, z2, z3, z4, z5⟩, _⟩ := blk6 hzC
  refine bodyPost_ret (v := .agg #[.int .i64 n, .slice none 0 0, .bool false, .int .i64 0, .slice none 0 0, .slice none 0 0]) (by simp [results, Tryd.results21, go_sem, z0, z1, z2, z3, z4, z5]) rfl ?_
  have e2 : stepR (optR (!bitX f 4) [] (colsR (n : Int).toNat (bitX f 1))) S1 = S1 := by rw [HH4.out]; exact step_opt_no _ _ HR2.out.nrm
  have e1 : stepR (tableR f n) S = S1 := by rw [table_step, HSS.out]; exact e2
  refine ⟨none, 0, 0, [], v0, none, 0, 0, rfl, ?_, ownI_nil _ _ _ _ _, ?_, fun hh => ?_, HK2.out.trans hKC (fun i hi e => by have := HQE.out; omega)⟩
  · rw [e1]; exact HR2.out.kept hKC (fun k hk e => by omega)
  · exact (HX2.out.apart hKC (fun k _ hk e => by omega)).stay (fun _ _ _ => rfl) (Nat.le_refl _) (fun k _ hk => by have := HQE.out; omega)
  · rw [table_val hh, HH2.out, HH4.out, HVV.out (by rw [← e1]; exact hh), HH2.out]; rfl

set_option maxHeartbeats 2000000 in
theorem rtable_n_true {w : World} {p : Nat} {S : BE} (h : Rd w p S) (hT : Tab w) (hp0 : 0 < p) {f : Int} {n : Nat} (hn : n ≤ 4096) (h2 : bitX f 2 = false) (h4 : bitX f 4 = false) (h1 : bitX f 1 = true) :
    Calls Tryd.prog 21 #[.pointer (some ⟨p, 0, none⟩), .int .i64 f, .int .i64 n] w fun e w' => ∃ (ca : Option Addr) (cl cc : Nat) (L : List Col) (V : Vl) (x : Option Addr) (lx cx : Nat), e = .returned (.agg #[.int .i64 n, .slice ca cl cc, .bool false, .int .i64 V.1, .slice x lx cx, .slice none 0 0]) ∧ Hid (Rd w' p (stepR (tableR f n) S)) ∧ Hid (OwnI 64 8 (VCol 20) w' (fun k => w.heap.size ≤ k) (.slice ca cl cc) L) ∧ Hid (IsBF (fun k => w.heap.size ≤ k) w' x lx cx (sNums V.2)) ∧
      Hid ((stepR (tableR f n) S).2 = 0 → (((n : Nat) : Int), L, false, V, []) = (tableR f n S.1).val) ∧ Hid (Kept (fun k => k = p) w w') := by
  have hlt := h.lt
  obtain ⟨q, hq⟩ : ∃ q, q = w.heap.size := ⟨_, rfl⟩
  have HQE : Hid (w.heap.size = q) := hq.symm
  obtain ⟨w0, hw0⟩ : ∃ w0, w0 = (w.alloc (.cells #[.int .i64 0, .slice none 0 0, .bool false, .int .i64 0, .slice none 0 0, .slice none 0 0] 29)).alloc (.cells #[.int .i64 n, .slice none 0 0, .bool false, .int .i64 0, .slice none 0 0, .slice none 0 0] 29) := ⟨_, rfl⟩
  have HW0 : Hid ((w.alloc (.cells #[.int .i64 0, .slice none 0 0, .bool false, .int .i64 0, .slice none 0 0, .slice none 0 0] 29)).alloc (.cells #[.int .i64 n, .slice none 0 0, .bool false, .int .i64 0, .slice none 0 0, .slice none 0 0] 29) = w0) := hw0.symm
  have hB0 : Below w.heap.size w w0 := by rw [hw0]; exact (below_one _ _).alloc (by simp) _
  have hz0 : w0.heap[q]? = some (.cells #[.int .i64 0, .slice none 0 0, .bool false, .int .i64 0, .slice none 0 0, .slice none 0 0] 29 (0, 0)) := by
    rw [hw0, hq]
    exact ((below_one (w.alloc (.cells #[.int .i64 0, .slice none 0 0, .bool false, .int .i64 0, .slice none 0 0, .slice none 0 0] 29)) _).block w.heap.size (by simp)).trans (heap_alloc_new w _)
  have ht0 : w0.heap[q + 1]? = some (.cells #[.int .i64 n, .slice none 0 0, .bool false, .int .i64 0, .slice none 0 0, .slice none 0 0] 29 (0, 0)) := by
    rw [hw0, hq]
    have := heap_alloc_new (w.alloc (.cells #[.int .i64 0, .slice none 0 0, .bool false, .int .i64 0, .slice none 0 0, .slice none 0 0] 29)) (.cells #[.int .i64 n, .slice none 0 0, .bool false, .int .i64 0, .slice none 0 0, .slice none 0 0] 29)
    simpa using this
  have HZ0 : Hid _ := hz0
  have HT0 : Hid _ := ht0
  have HB0 : Hid (Below w.heap.size w w0) := hB0
  have HR0 : Hid (Rd w0 p S) := h.new hB0
  have HTB : Hid (Tab w0) := hT.old hB0
  have hpq : p < q := by omega
  obtain ⟨⟨a0, a1, a2, a3, a4, a5⟩, af0, af1, af2, af3, af4, af5⟩ := blk6 hz0
  obtain ⟨⟨b0, b1, b2, b3, b4, b5⟩, bf0, bf1, bf2, bf3, bf4, bf5⟩ := blk6 ht0
  have hla := block_lt hz0
  have hlb := block_lt ht0
  have HH2 : Hid _ := h2
  have HH4 : Hid _ := h4
  have HH1 : Hid _ := h1
  have t2 : (bits .and .i64 f 2 != 0) = false := h2
  have t4 : (bits .and .i64 f 4 == 0) = true := by have := h4; unfold bitX at this; simpa using this
  have t1 : (bits .and .i64 f 1 != 0) = true := h1
  clear h hT hw0 hB0 hq h2 h4 hz0 ht0 h1
  go_enter Tryd.func21, Tryd.ntmps21
  go_upto_region 2 with fail
  rw [HW0.out]
  clear HW0
  (try rw [HQE.out])
  obtain ⟨w2, hw2⟩ : ∃ w2, w2 = w0 := ⟨_, rfl⟩
  rw [← hw2] at HZ0 HT0 HR0 HTB HB0 hla hlb a0 a1 a2 a3 a4 a5 af0 af1 af2 af3 af4 af5 b0 b1 b2 b3 b4 b5 bf0 bf1 bf2 bf3 bf4 bf5 ⊢
  clear hw2
  have HZ2 := HZ0
  have HT2 := HT0
  have HR2 := HR0
  have HTB2 := HTB
  have HK2 : Hid (Kept (fun k => k = p) w w2) := kept_of HB0.out
  have hla2 := hla
  have hlb2 := hlb
  have HX2 : Hid (IsBF (fun k => q + 1 < k) w2 none 0 0 (sNums v0.2)) := isBF_nil _ _
  obtain ⟨S1, hS1⟩ : ∃ S1, S1 = S := ⟨_, rfl⟩
  have HSS : Hid (stepR (optR (bitX f 2) v0 valueR) S = S1) := by rw [HH2.out, hS1]; exact step_opt_no _ _ HR0.out.nrm
  have HVV : Hid (S1.2 = 0 → v0 = (optR (bitX f 2) v0 valueR S.1).val) := by rw [HH2.out]; exact fun _ => rfl
  rw [← hS1] at HR2
  clear hS1 HZ0 HT0 HR0 HTB HB0
  go_wp2_with fail
  refine (rcolumns_true HR2.out HTB2.out hp0 hn).mono ?_
  rintro r w3 ⟨v, L, rfl, HR3, HO3, HL3, HK3⟩
  obtain ⟨ca, cc, hv⟩ := HO3.out.shape
  obtain ⟨cl, hcl⟩ : ∃ cl, cl = L.length := ⟨_, rfl⟩
  rw [← hcl] at hv
  subst hv
  have hz3 : w3.heap[q]? = some (.cells #[.int .i64 0, .slice none 0 0, .bool false, .int .i64 0, .slice none 0 0, .slice none 0 0] 29 (0, 0)) := (HK3.out.block q hla2 (by omega)).trans HZ2.out
  have ht3 : w3.heap[q + 1]? = some (.cells #[.int .i64 n, .slice none 0 0, .bool false, .int .i64 0, .slice none 0 0, .slice none 0 0] 29 (0, 0)) := (HK3.out.block (q + 1) hlb2 (by omega)).trans HT2.out
  have HZ3 : Hid _ := hz3
  have HT3 : Hid _ := ht3
  obtain ⟨⟨a0, a1, a2, a3, a4, a5⟩, af0, af1, af2, af3, af4, af5⟩ := blk6 hz3
  obtain ⟨⟨b0, b1, b2, b3, b4, b5⟩, bf0, bf1, bf2, bf3, bf4, bf5⟩ := blk6 ht3
  have hla3 := block_lt hz3
  have hlb3 := block_lt ht3
  have hs3 := HK3.out.size
  clear hz3 ht3 hcl
  go_upto_region 6 with fail
  have hKA : Kept (fun k => k = q + 1) w3 (w3.setCell ⟨q + 1, 1, none⟩ (.slice ca cl cc)) := one_kept w3 (q + 1) 1 _
  have ht4 : (w3.setCell ⟨q + 1, 1, none⟩ (.slice ca cl cc)).heap[q + 1]? = some (.cells #[.int .i64 n, .slice ca cl cc, .bool false, .int .i64 0, .slice none 0 0, .slice none 0 0] 29 (0, 0)) := blk_set HT3.out 1 _
  generalize w3.setCell ⟨q + 1, 1, none⟩ (.slice ca cl cc) = w4 at hKA ht4 ⊢
  have hz4 : w4.heap[q]? = some (.cells #[.int .i64 0, .slice none 0 0, .bool false, .int .i64 0, .slice none 0 0, .slice none 0 0] 29 (0, 0)) := (hKA.block q hla3 (by omega)).trans HZ3.out
  have HZ4 : Hid _ := hz4
  have HKA : Hid _ := hKA
  obtain ⟨⟨a0, a1, a2, a3, a4, a5⟩, af0, af1, af2, af3, af4, af5⟩ := blk6 hz4
  obtain ⟨⟨b0, b1, b2, b3, b4, b5⟩, bf0, bf1, bf2, bf3, bf4, bf5⟩ := blk6 ht4
  have hla4 := block_lt hz4
  have hlb4 := block_lt ht4
  clear hz4 ht4 hKA
  go_wp2_with fail
  have hKC : Kept (fun k => k = q) w4 ((((((w4.setCell ⟨q, 0, none⟩ (.int .i64 n)).setCell ⟨q, 1, none⟩ (.slice ca cl cc)).setCell ⟨q, 2, none⟩ (.bool false)).setCell ⟨q, 3, none⟩ (.int .i64 0)).setCell ⟨q, 4, none⟩ (.slice none 0 0)).setCell ⟨q, 5, none⟩ (.slice none 0 0)) := ((((((Kept.refl (fun k => k = q) w4).setCell (p := ⟨q, 0, none⟩) (fun _ => rfl) _).setCell (p := ⟨q, 1, none⟩) (fun _ => rfl) _).setCell (p := ⟨q, 2, none⟩) (fun _ => rfl) _).setCell (p := ⟨q, 3, none⟩) (fun _ => rfl) _).setCell (p := ⟨q, 4, none⟩) (fun _ => rfl) _).setCell (p := ⟨q, 5, none⟩) (fun _ => rfl) _
  have hzC : ((((((w4.setCell ⟨q, 0, none⟩ (.int .i64 n)).setCell ⟨q, 1, none⟩ (.slice ca cl cc)).setCell ⟨q, 2, none⟩ (.bool false)).setCell ⟨q, 3, none⟩ (.int .i64 0)).setCell ⟨q, 4, none⟩ (.slice none 0 0)).setCell ⟨q, 5, none⟩ (.slice none 0 0)).heap[q]? = some (.cells #[.int .i64 n, .slice ca cl cc, .bool false, .int .i64 0, .slice none 0 0, .slice none 0 0] 29 (0, 0)) := blk_set ((blk_set ((blk_set ((blk_set ((blk_set ((blk_set (HZ4.out) 0 (.int .i64 n))) 1 (.slice ca cl cc))) 2 (.bool false))) 3 (.int .i64 0))) 4 (.slice none 0 0))) 5 (.slice none 0 0)
  generalize (((((w4.setCell ⟨q, 0, none⟩ (.int .i64 n)).setCell ⟨q, 1, none⟩ (.slice ca cl cc)).setCell ⟨q, 2, none⟩ (.bool false)).setCell ⟨q, 3, none⟩ (.int .i64 0)).setCell ⟨q, 4, none⟩ (.slice none 0 0)).setCell ⟨q, 5, none⟩ (.slice none 0 0) = wC at hKC hzC ⊢
  obtain ⟨⟨z0, z1, z2, z3, z4, z5⟩, _⟩ := blk6 hzC
  have hKAC : Kept (fun k => k = q ∨ k = q + 1) w3 wC := (HKA.out.wider (fun k e => .inr e)).trans hKC (fun i hi e => .inl e)
  have e1 : stepR (tableR f n) S = stepR (colsR n true) S1 := by rw [table_step, HSS.out, HH4.out, HH1.out, Int.toNat_natCast]; rfl
  refine bodyPost_ret (v := .agg #[.int .i64 n, .slice ca cl cc, .bool false, .int .i64 0, .slice none 0 0, .slice none 0 0]) (by simp [results, Tryd.results21, go_sem, z0, z1, z2, z3, z4, z5]) rfl ?_
  refine ⟨ca, cl, cc, L, v0, none, 0, 0, rfl, ?_, ?_, ?_, fun hh => ?_, (HK2.out.trans HK3.out (fun i hi e => e)).trans hKAC (fun i hi e => by have := HQE.out; rcases e with e | e <;> omega)⟩
  · rw [e1]; exact HR3.out.kept hKAC (fun k hk e => by rcases e with e | e <;> omega)
  · exact (HO3.out.apart (stays_col 20) hKAC (fun k _ hk e => by rcases e with e | e <;> omega)).sub (stays_col 20) (fun k _ hk => by have := HQE.out; omega)
  · exact ((HX2.out.apart HK3.out (fun k _ hk e => by omega)).apart hKAC (fun k _ hk e => by rcases e with e | e <;> omega)).stay (fun _ _ _ => rfl) (Nat.le_refl _) (fun k _ hk => by have := HQE.out; omega)
  · have hh2 := hh
    rw [e1] at hh2
    rw [table_val hh, HSS.out, ← HVV.out (step_fine hh2), HL3.out hh2, HH2.out, HH4.out, HH1.out, Int.toNat_natCast]
    rfl

set_option maxHeartbeats 2000000 in
theorem rtable_n_false {w : World} {p : Nat} {S : BE} (h : Rd w p S) (hT : Tab w) (hp0 : 0 < p) {f : Int} {n : Nat} (hn : n ≤ 4096) (h2 : bitX f 2 = false) (h4 : bitX f 4 = false) (h1 : bitX f 1 = false) :
    Calls Tryd.prog 21 #[.pointer (some ⟨p, 0, none⟩), .int .i64 f, .int .i64 n] w fun e w' => ∃ (ca : Option Addr) (cl cc : Nat) (L : List Col) (V : Vl) (x : Option Addr) (lx cx : Nat), e = .returned (.agg #[.int .i64 n, .slice ca cl cc, .bool false, .int .i64 V.1, .slice x lx cx, .slice none 0 0]) ∧ Hid (Rd w' p (stepR (tableR f n) S)) ∧ Hid (OwnI 64 8 (VCol 20) w' (fun k => w.heap.size ≤ k) (.slice ca cl cc) L) ∧ Hid (IsBF (fun k => w.heap.size ≤ k) w' x lx cx (sNums V.2)) ∧
      Hid ((stepR (tableR f n) S).2 = 0 → (((n : Nat) : Int), L, false, V, []) = (tableR f n S.1).val) ∧ Hid (Kept (fun k => k = p) w w') := by
  have hlt := h.lt
  obtain ⟨q, hq⟩ : ∃ q, q = w.heap.size := ⟨_, rfl⟩
  have HQE : Hid (w.heap.size = q) := hq.symm
  obtain ⟨w0, hw0⟩ : ∃ w0, w0 = (w.alloc (.cells #[.int .i64 0, .slice none 0 0, .bool false, .int .i64 0, .slice none 0 0, .slice none 0 0] 29)).alloc (.cells #[.int .i64 n, .slice none 0 0, .bool false, .int .i64 0, .slice none 0 0, .slice none 0 0] 29) := ⟨_, rfl⟩
  have HW0 : Hid ((w.alloc (.cells #[.int .i64 0, .slice none 0 0, .bool false, .int .i64 0, .slice none 0 0, .slice none 0 0] 29)).alloc (.cells #[.int .i64 n, .slice none 0 0, .bool false, .int .i64 0, .slice none 0 0, .slice none 0 0] 29) = w0) := hw0.symm
  have hB0 : Below w.heap.size w w0 := by rw [hw0]; exact (below_one _ _).alloc (by simp) _
  have hz0 : w0.heap[q]? = some (.cells #[.int .i64 0, .slice none 0 0, .bool false, .int .i64 0, .slice none 0 0, .slice none 0 0] 29 (0, 0)) := by
    rw [hw0, hq]
    exact ((below_one (w.alloc (.cells #[.int .i64 0, .slice none 0 0, .bool false, .int .i64 0, .slice none 0 0, .slice none 0 0] 29)) _).block w.heap.size (by simp)).trans (heap_alloc_new w _)
  have ht0 : w0.heap[q + 1]? = some (.cells #[.int .i64 n, .slice none 0 0, .bool false, .int .i64 0, .slice none 0 0, .slice none 0 0] 29 (0, 0)) := by
    rw [hw0, hq]
    have := heap_alloc_new (w.alloc (.cells #[.int .i64 0, .slice none 0 0, .bool false, .int .i64 0, .slice none 0 0, .slice none 0 0] 29)) (.cells #[.int .i64 n, .slice none 0 0, .bool false, .int .i64 0, .slice none 0 0, .slice none 0 0] 29)
    simpa using this
  have HZ0 : Hid _ := hz0
  have HT0 : Hid _ := ht0
  have HB0 : Hid (Below w.heap.size w w0) := hB0
  have HR0 : Hid (Rd w0 p S) := h.new hB0
  have HTB : Hid (Tab w0) := hT.old hB0
  have hpq : p < q := by omega
  obtain ⟨⟨a0, a1, a2, a3, a4, a5⟩, af0, af1, af2, af3, af4, af5⟩ := blk6 hz0
  obtain ⟨⟨b0, b1, b2, b3, b4, b5⟩, bf0, bf1, bf2, bf3, bf4, bf5⟩ := blk6 ht0
  have hla := block_lt hz0
  have hlb := block_lt ht0
  have HH2 : Hid _ := h2
  have HH4 : Hid _ := h4
  have HH1 : Hid _ := h1
  have t2 : (bits .and .i64 f 2 != 0) = false := h2
  have t4 : (bits .and .i64 f 4 == 0) = true := by have := h4; unfold bitX at this; simpa using this
  have t1 : (bits .and .i64 f 1 != 0) = false := h1
  clear h hT hw0 hB0 hq h2 h4 hz0 ht0 h1
  go_enter Tryd.func21, Tryd.ntmps21
  go_upto_region 2 with fail
  rw [HW0.out]
  clear HW0
  (try rw [HQE.out])
  obtain ⟨w2, hw2⟩ : ∃ w2, w2 = w0 := ⟨_, rfl⟩
  rw [← hw2] at HZ0 HT0 HR0 HTB HB0 hla hlb a0 a1 a2 a3 a4 a5 af0 af1 af2 af3 af4 af5 b0 b1 b2 b3 b4 b5 bf0 bf1 bf2 bf3 bf4 bf5 ⊢
  clear hw2
  have HZ2 := HZ0
  have HT2 := HT0
  have HR2 := HR0
  have HTB2 := HTB
  have HK2 : Hid (Kept (fun k => k = p) w w2) := kept_of HB0.out
  have hla2 := hla
  have hlb2 := hlb
  have HX2 : Hid (IsBF (fun k => q + 1 < k) w2 none 0 0 (sNums v0.2)) := isBF_nil _ _
  obtain ⟨S1, hS1⟩ : ∃ S1, S1 = S := ⟨_, rfl⟩
  have HSS : Hid (stepR (optR (bitX f 2) v0 valueR) S = S1) := by rw [HH2.out, hS1]; exact step_opt_no _ _ HR0.out.nrm
  have HVV : Hid (S1.2 = 0 → v0 = (optR (bitX f 2) v0 valueR S.1).val) := by rw [HH2.out]; exact fun _ => rfl
  rw [← hS1] at HR2
  clear hS1 HZ0 HT0 HR0 HTB HB0
  go_wp2_with fail
  refine (rcolumns_false HR2.out HTB2.out hp0 hn).mono ?_
  rintro r w3 ⟨v, L, rfl, HR3, HO3, HL3, HK3⟩
  obtain ⟨ca, cc, hv⟩ := HO3.out.shape
  obtain ⟨cl, hcl⟩ : ∃ cl, cl = L.length := ⟨_, rfl⟩
  rw [← hcl] at hv
  subst hv
  have hz3 : w3.heap[q]? = some (.cells #[.int .i64 0, .slice none 0 0, .bool false, .int .i64 0, .slice none 0 0, .slice none 0 0] 29 (0, 0)) := (HK3.out.block q hla2 (by omega)).trans HZ2.out
  have ht3 : w3.heap[q + 1]? = some (.cells #[.int .i64 n, .slice none 0 0, .bool false, .int .i64 0, .slice none 0 0, .slice none 0 0] 29 (0, 0)) := (HK3.out.block (q + 1) hlb2 (by omega)).trans HT2.out
  have HZ3 : Hid _ := hz3
  have HT3 : Hid _ := ht3
  obtain ⟨⟨a0, a1, a2, a3, a4, a5⟩, af0, af1, af2, af3, af4, af5⟩ := blk6 hz3
  obtain ⟨⟨b0, b1, b2, b3, b4, b5⟩, bf0, bf1, bf2, bf3, bf4, bf5⟩ := blk6 ht3
  have hla3 := block_lt hz3
  have hlb3 := block_lt ht3
  have hs3 := HK3.out.size
  clear hz3 ht3 hcl
  go_upto_region 6 with fail
  have hKA : Kept (fun k => k = q + 1) w3 (w3.setCell ⟨q + 1, 1, none⟩ (.slice ca cl cc)) := one_kept w3 (q + 1) 1 _
  have ht4 : (w3.setCell ⟨q + 1, 1, none⟩ (.slice ca cl cc)).heap[q + 1]? = some (.cells #[.int .i64 n, .slice ca cl cc, .bool false, .int .i64 0, .slice none 0 0, .slice none 0 0] 29 (0, 0)) := blk_set HT3.out 1 _
  generalize w3.setCell ⟨q + 1, 1, none⟩ (.slice ca cl cc) = w4 at hKA ht4 ⊢
  have hz4 : w4.heap[q]? = some (.cells #[.int .i64 0, .slice none 0 0, .bool false, .int .i64 0, .slice none 0 0, .slice none 0 0] 29 (0, 0)) := (hKA.block q hla3 (by omega)).trans HZ3.out
  have HZ4 : Hid _ := hz4
  have HKA : Hid _ := hKA
  obtain ⟨⟨a0, a1, a2, a3, a4, a5⟩, af0, af1, af2, af3, af4, af5⟩ := blk6 hz4
  obtain ⟨⟨b0, b1, b2, b3, b4, b5⟩, bf0, bf1, bf2, bf3, bf4, bf5⟩ := blk6 ht4
  have hla4 := block_lt hz4
  have hlb4 := block_lt ht4
  clear hz4 ht4 hKA
  go_wp2_with fail
  have hKC : Kept (fun k => k = q) w4 ((((((w4.setCell ⟨q, 0, none⟩ (.int .i64 n)).setCell ⟨q, 1, none⟩ (.slice ca cl cc)).setCell ⟨q, 2, none⟩ (.bool false)).setCell ⟨q, 3, none⟩ (.int .i64 0)).setCell ⟨q, 4, none⟩ (.slice none 0 0)).setCell ⟨q, 5, none⟩ (.slice none 0 0)) := ((((((Kept.refl (fun k => k = q) w4).setCell (p := ⟨q, 0, none⟩) (fun _ => rfl) _).setCell (p := ⟨q, 1, none⟩) (fun _ => rfl) _).setCell (p := ⟨q, 2, none⟩) (fun _ => rfl) _).setCell (p := ⟨q, 3, none⟩) (fun _ => rfl) _).setCell (p := ⟨q, 4, none⟩) (fun _ => rfl) _).setCell (p := ⟨q, 5, none⟩) (fun _ => rfl) _
  have hzC : ((((((w4.setCell ⟨q, 0, none⟩ (.int .i64 n)).setCell ⟨q, 1, none⟩ (.slice ca cl cc)).setCell ⟨q, 2, none⟩ (.bool false)).setCell ⟨q, 3, none⟩ (.int .i64 0)).setCell ⟨q, 4, none⟩ (.slice none 0 0)).setCell ⟨q, 5, none⟩ (.slice none 0 0)).heap[q]? = some (.cells #[.int .i64 n, .slice ca cl cc, .bool false, .int .i64 0, .slice none 0 0, .slice none 0 0] 29 (0, 0)) := blk_set ((blk_set ((blk_set ((blk_set ((blk_set ((blk_set (HZ4.out) 0 (.int .i64 n))) 1 (.slice ca cl cc))) 2 (.bool false))) 3 (.int .i64 0))) 4 (.slice none 0 0))) 5 (.slice none 0 0)
  generalize (((((w4.setCell ⟨q, 0, none⟩ (.int .i64 n)).setCell ⟨q, 1, none⟩ (.slice ca cl cc)).setCell ⟨q, 2, none⟩ (.bool false)).setCell ⟨q, 3, none⟩ (.int .i64 0)).setCell ⟨q, 4, none⟩ (.slice none 0 0)).setCell ⟨q, 5, none⟩ (.slice none 0 0) = wC at hKC hzC ⊢
  obtain ⟨⟨z0, z1, z2, z3, z4, z5⟩, _⟩ := blk6 hzC
  have hKAC : Kept (fun k => k = q ∨ k = q + 1) w3 wC := (HKA.out.wider (fun k e => .inr e)).trans hKC (fun i hi e => .inl e)
  have e1 : stepR (tableR f n) S = stepR (colsR n false) S1 := by rw [table_step, HSS.out, HH4.out, HH1.out, Int.toNat_natCast]; rfl
  refine bodyPost_ret (v := .agg #[.int .i64 n, .slice ca cl cc, .bool false, .int .i64 0, .slice none 0 0, .slice none 0 0]) (by simp [results, Tryd.results21, go_sem, z0, z1, z2, z3, z4, z5]) rfl ?_
  refine ⟨ca, cl, cc, L, v0, none, 0, 0, rfl, ?_, ?_, ?_, fun hh => ?_, (HK2.out.trans HK3.out (fun i hi e => e)).trans hKAC (fun i hi e => by have := HQE.out; rcases e with e | e <;> omega)⟩
  · rw [e1]; exact HR3.out.kept hKAC (fun k hk e => by rcases e with e | e <;> omega)
  · exact (HO3.out.apart (stays_col 20) hKAC (fun k _ hk e => by rcases e with e | e <;> omega)).sub (stays_col 20) (fun k _ hk => by have := HQE.out; omega)
  · exact ((HX2.out.apart HK3.out (fun k _ hk e => by omega)).apart hKAC (fun k _ hk e => by rcases e with e | e <;> omega)).stay (fun _ _ _ => rfl) (Nat.le_refl _) (fun k _ hk => by have := HQE.out; omega)
  · have hh2 := hh
    rw [e1] at hh2
    rw [table_val hh, HSS.out, ← HVV.out (step_fine hh2), HL3.out hh2, HH2.out, HH4.out, HH1.out, Int.toNat_natCast]
    rfl

set_option maxHeartbeats 2000000 in
theorem rtable_m_no {w : World} {p : Nat} {S : BE} (h : Rd w p S) (hT : Tab w) (hp0 : 0 < p) {f : Int} {n : Nat} (hn : n ≤ 4096) (h2 : bitX f 2 = true) (h4 : bitX f 4 = true) :
    Calls Tryd.prog 21 #[.pointer (some ⟨p, 0, none⟩), .int .i64 f, .int .i64 n] w fun e w' => ∃ (ca : Option Addr) (cl cc : Nat) (L : List Col) (V : Vl) (x : Option Addr) (lx cx : Nat), e = .returned (.agg #[.int .i64 n, .slice ca cl cc, .bool true, .int .i64 V.1, .slice x lx cx, .slice none 0 0]) ∧ Hid (Rd w' p (stepR (tableR f n) S)) ∧ Hid (OwnI 64 8 (VCol 20) w' (fun k => w.heap.size ≤ k) (.slice ca cl cc) L) ∧ Hid (IsBF (fun k => w.heap.size ≤ k) w' x lx cx (sNums V.2)) ∧
      Hid ((stepR (tableR f n) S).2 = 0 → (((n : Nat) : Int), L, true, V, []) = (tableR f n S.1).val) ∧ Hid (Kept (fun k => k = p) w w') := by
  have hlt := h.lt
  obtain ⟨q, hq⟩ : ∃ q, q = w.heap.size := ⟨_, rfl⟩
  have HQE : Hid (w.heap.size = q) := hq.symm
  obtain ⟨w0, hw0⟩ : ∃ w0, w0 = (w.alloc (.cells #[.int .i64 0, .slice none 0 0, .bool false, .int .i64 0, .slice none 0 0, .slice none 0 0] 29)).alloc (.cells #[.int .i64 n, .slice none 0 0, .bool true, .int .i64 0, .slice none 0 0, .slice none 0 0] 29) := ⟨_, rfl⟩
  have HW0 : Hid ((w.alloc (.cells #[.int .i64 0, .slice none 0 0, .bool false, .int .i64 0, .slice none 0 0, .slice none 0 0] 29)).alloc (.cells #[.int .i64 n, .slice none 0 0, .bool true, .int .i64 0, .slice none 0 0, .slice none 0 0] 29) = w0) := hw0.symm
  have hB0 : Below w.heap.size w w0 := by rw [hw0]; exact (below_one _ _).alloc (by simp) _
  have hz0 : w0.heap[q]? = some (.cells #[.int .i64 0, .slice none 0 0, .bool false, .int .i64 0, .slice none 0 0, .slice none 0 0] 29 (0, 0)) := by
    rw [hw0, hq]
    exact ((below_one (w.alloc (.cells #[.int .i64 0, .slice none 0 0, .bool false, .int .i64 0, .slice none 0 0, .slice none 0 0] 29)) _).block w.heap.size (by simp)).trans (heap_alloc_new w _)
  have ht0 : w0.heap[q + 1]? = some (.cells #[.int .i64 n, .slice none 0 0, .bool true, .int .i64 0, .slice none 0 0, .slice none 0 0] 29 (0, 0)) := by
    rw [hw0, hq]
    have := heap_alloc_new (w.alloc (.cells #[.int .i64 0, .slice none 0 0, .bool false, .int .i64 0, .slice none 0 0, .slice none 0 0] 29)) (.cells #[.int .i64 n, .slice none 0 0, .bool true, .int .i64 0, .slice none 0 0, .slice none 0 0] 29)
    simpa using this
  have HZ0 : Hid _ := hz0
  have HT0 : Hid _ := ht0
  have HB0 : Hid (Below w.heap.size w w0) := hB0
  have HR0 : Hid (Rd w0 p S) := h.new hB0
  have HTB : Hid (Tab w0) := hT.old hB0
  have hpq : p < q := by omega
  obtain ⟨⟨a0, a1, a2, a3, a4, a5⟩, af0, af1, af2, af3, af4, af5⟩ := blk6 hz0
  obtain ⟨⟨b0, b1, b2, b3, b4, b5⟩, bf0, bf1, bf2, bf3, bf4, bf5⟩ := blk6 ht0
  have hla := block_lt hz0
  have hlb := block_lt ht0
  have HH2 : Hid _ := h2
  have HH4 : Hid _ := h4
  have t2 : (bits .and .i64 f 2 != 0) = true := h2
  have t4 : (bits .and .i64 f 4 == 0) = false := by have := h4; unfold bitX at this; simpa using this
  clear h hT hw0 hB0 hq h2 h4 hz0 ht0
  go_enter Tryd.func21, Tryd.ntmps21
  go_upto_region 2 with fail
  rw [HW0.out]
  clear HW0
  (try rw [HQE.out])
  go_wp2_with fail
  refine (read_value HR0.out).mono ?_
  rintro r w1 ⟨V, x, lx, cx, rfl, HR1, HX1, hF1, HV1, HK1⟩
  have hz1 : w1.heap[q]? = some (.cells #[.int .i64 0, .slice none 0 0, .bool false, .int .i64 0, .slice none 0 0, .slice none 0 0] 29 (0, 0)) := (HK1.out.block q hla (by omega)).trans HZ0.out
  have ht1 : w1.heap[q + 1]? = some (.cells #[.int .i64 n, .slice none 0 0, .bool true, .int .i64 0, .slice none 0 0, .slice none 0 0] 29 (0, 0)) := (HK1.out.block (q + 1) hlb (by omega)).trans HT0.out
  have HZ1 : Hid _ := hz1
  have HT1 : Hid _ := ht1
  obtain ⟨⟨a0, a1, a2, a3, a4, a5⟩, af0, af1, af2, af3, af4, af5⟩ := blk6 hz1
  obtain ⟨⟨b0, b1, b2, b3, b4, b5⟩, bf0, bf1, bf2, bf3, bf4, bf5⟩ := blk6 ht1
  have hla1 := block_lt hz1
  have hlb1 := block_lt ht1
  have hs1 := HK1.out.size
  have hs0 := HB0.out.size
  have HK1w : Hid (Kept (fun k => k = p) w w1) := (kept_of HB0.out).trans HK1.out (fun i hi e => e)
  have HX1b : Hid (IsBF (fun k => q + 1 < k) w1 x lx cx (sNums V.2)) := ⟨HX1.out, fun z hz _ => by have h1 := hF1 z hz; exact ⟨by omega, by omega⟩⟩
  have HTB1 : Hid (Tab w1) := HTB.out.kept HK1.out (by omega)
  clear hz1 ht1 hF1 HX1 HK1
  go_upto_region 4 with fail
  have hKA : Kept (fun k => k = q + 1) w1 ((w1.setCell ⟨q + 1, 3, none⟩ (.int .i64 V.1)).setCell ⟨q + 1, 4, none⟩ (.slice x lx cx)) := ((Kept.refl (fun k => k = q + 1) w1).setCell (p := ⟨q + 1, 3, none⟩) (fun _ => rfl) _).setCell (p := ⟨q + 1, 4, none⟩) (fun _ => rfl) _
  have ht2 : ((w1.setCell ⟨q + 1, 3, none⟩ (.int .i64 V.1)).setCell ⟨q + 1, 4, none⟩ (.slice x lx cx)).heap[q + 1]? = some (.cells #[.int .i64 n, .slice none 0 0, .bool true, .int .i64 V.1, .slice x lx cx, .slice none 0 0] 29 (0, 0)) := blk_set ((blk_set (HT1.out) 3 (.int .i64 V.1))) 4 (.slice x lx cx)
  generalize (w1.setCell ⟨q + 1, 3, none⟩ (.int .i64 V.1)).setCell ⟨q + 1, 4, none⟩ (.slice x lx cx) = w2 at hKA ht2 ⊢
  have HR2 : Hid (Rd w2 p (stepR valueR S)) := HR1.out.kept hKA (fun k hk e => by omega)
  have HX2 : Hid (IsBF (fun k => q + 1 < k) w2 x lx cx (sNums V.2)) := HX1b.out.apart hKA (fun k _ hk e => by omega)
  have HTB2 : Hid (Tab w2) := HTB1.out.kept hKA (by omega)
  have hz2 : w2.heap[q]? = some (.cells #[.int .i64 0, .slice none 0 0, .bool false, .int .i64 0, .slice none 0 0, .slice none 0 0] 29 (0, 0)) := (hKA.block q hla1 (by omega)).trans HZ1.out
  have HK2 : Hid (Kept (fun k => k = p) w w2) := HK1w.out.trans hKA (fun i hi e => by have := HQE.out; omega)
  have HSS : Hid (stepR (optR (bitX f 2) v0 valueR) S = stepR valueR S) := by rw [HH2.out]; rfl
  have HVV : Hid ((stepR valueR S).2 = 0 → V = (optR (bitX f 2) v0 valueR S.1).val) := by rw [HH2.out]; exact HV1.out
  have HZ2 : Hid _ := hz2
  have HT2 : Hid _ := ht2
  obtain ⟨⟨a0, a1, a2, a3, a4, a5⟩, af0, af1, af2, af3, af4, af5⟩ := blk6 hz2
  obtain ⟨⟨b0, b1, b2, b3, b4, b5⟩, bf0, bf1, bf2, bf3, bf4, bf5⟩ := blk6 ht2
  have hla2 := block_lt hz2
  have hlb2 := block_lt ht2
  obtain ⟨S1, hS1⟩ : ∃ S1, S1 = stepR valueR S := ⟨_, rfl⟩
  rw [← hS1] at HR2 HSS HVV
  clear hKA hz2 ht2 hS1 HR1 HV1 HX1b HTB1 HK1w HZ1 HT1 HZ0 HT0 HR0 HTB HB0
  go_wp2_with fail
  have hKC : Kept (fun k => k = q) w2 ((((((w2.setCell ⟨q, 0, none⟩ (.int .i64 n)).setCell ⟨q, 1, none⟩ (.slice none 0 0)).setCell ⟨q, 2, none⟩ (.bool true)).setCell ⟨q, 3, none⟩ (.int .i64 V.1)).setCell ⟨q, 4, none⟩ (.slice x lx cx)).setCell ⟨q, 5, none⟩ (.slice none 0 0)) := ((((((Kept.refl (fun k => k = q) w2).setCell (p := ⟨q, 0, none⟩) (fun _ => rfl) _).setCell (p := ⟨q, 1, none⟩) (fun _ => rfl) _).setCell (p := ⟨q, 2, none⟩) (fun _ => rfl) _).setCell (p := ⟨q, 3, none⟩) (fun _ => rfl) _).setCell (p := ⟨q, 4, none⟩) (fun _ => rfl) _).setCell (p := ⟨q, 5, none⟩) (fun _ => rfl) _
  have hzC : ((((((w2.setCell ⟨q, 0, none⟩ (.int .i64 n)).setCell ⟨q, 1, none⟩ (.slice none 0 0)).setCell ⟨q, 2, none⟩ (.bool true)).setCell ⟨q, 3, none⟩ (.int .i64 V.1)).setCell ⟨q, 4, none⟩ (.slice x lx cx)).setCell ⟨q, 5, none⟩ (.slice none 0 0)).heap[q]? = some (.cells #[.int .i64 n, .slice none 0 0, .bool true, .int .i64 V.1, .slice x lx cx, .slice none 0 0] 29 (0, 0)) := blk_set ((blk_set ((blk_set ((blk_set ((blk_set ((blk_set (HZ2.out) 0 (.int .i64 n))) 1 (.slice none 0 0))) 2 (.bool true))) 3 (.int .i64 V.1))) 4 (.slice x lx cx))) 5 (.slice none 0 0)
  generalize (((((w2.setCell ⟨q, 0, none⟩ (.int .i64 n)).setCell ⟨q, 1, none⟩ (.slice none 0 0)).setCell ⟨q, 2, none⟩ (.bool true)).setCell ⟨q, 3, none⟩ (.int .i64 V.1)).setCell ⟨q, 4, none⟩ (.slice x lx cx)).setCell ⟨q, 5, none⟩ (.slice none 0 0) = wC at hKC hzC ⊢
  obtain ⟨⟨z0, z1, z2, z3, z4, z5⟩, _⟩ := blk6 hzC
  refine bodyPost_ret (v := .agg #[.int .i64 n, .slice none 0 0, .bool true, .int .i64 V.1, .slice x lx cx, .slice none 0 0]) (by simp [results, Tryd.results21, go_sem, z0, z1, z2, z3, z4, z5]) rfl ?_
  have e2 : stepR (optR (!bitX f 4) [] (colsR (n : Int).toNat (bitX f 1))) S1 = S1 := by rw [HH4.out]; exact step_opt_no _ _ HR2.out.nrm
  have e1 : stepR (tableR f n) S = S1 := by rw [table_step, HSS.out]; exact e2
  refine ⟨none, 0, 0, [], V, x, lx, cx, rfl, ?_, ownI_nil _ _ _ _ _, ?_, fun hh => ?_, HK2.out.trans hKC (fun i hi e => by have := HQE.out; omega)⟩
  · rw [e1]; exact HR2.out.kept hKC (fun k hk e => by omega)
  · exact (HX2.out.apart hKC (fun k _ hk e => by omega)).stay (fun _ _ _ => rfl) (Nat.le_refl _) (fun k _ hk => by have := HQE.out; omega)
  · rw [table_val hh, HH2.out, HH4.out, HVV.out (by rw [← e1]; exact hh), HH2.out]; rfl

set_option maxHeartbeats 2000000 in
theorem rtable_m_true {w : World} {p : Nat} {S : BE} (h : Rd w p S) (hT : Tab w) (hp0 : 0 < p) {f : Int} {n : Nat} (hn : n ≤ 4096) (h2 : bitX f 2 = true) (h4 : bitX f 4 = false) (h1 : bitX f 1 = true) :
    Calls Tryd.prog 21 #[.pointer (some ⟨p, 0, none⟩), .int .i64 f, .int .i64 n] w fun e w' => ∃ (ca : Option Addr) (cl cc : Nat) (L : List Col) (V : Vl) (x : Option Addr) (lx cx : Nat), e = .returned (.agg #[.int .i64 n, .slice ca cl cc, .bool true, .int .i64 V.1, .slice x lx cx, .slice none 0 0]) ∧ Hid (Rd w' p (stepR (tableR f n) S)) ∧ Hid (OwnI 64 8 (VCol 20) w' (fun k => w.heap.size ≤ k) (.slice ca cl cc) L) ∧ Hid (IsBF (fun k => w.heap.size ≤ k) w' x lx cx (sNums V.2)) ∧
      Hid ((stepR (tableR f n) S).2 = 0 → (((n : Nat) : Int), L, true, V, []) = (tableR f n S.1).val) ∧ Hid (Kept (fun k => k = p) w w') := by
  have hlt := h.lt
  obtain ⟨q, hq⟩ : ∃ q, q = w.heap.size := ⟨_, rfl⟩
  have HQE : Hid (w.heap.size = q) := hq.symm
  obtain ⟨w0, hw0⟩ : ∃ w0, w0 = (w.alloc (.cells #[.int .i64 0, .slice none 0 0, .bool false, .int .i64 0, .slice none 0 0, .slice none 0 0] 29)).alloc (.cells #[.int .i64 n, .slice none 0 0, .bool true, .int .i64 0, .slice none 0 0, .slice none 0 0] 29) := ⟨_, rfl⟩
  have HW0 : Hid ((w.alloc (.cells #[.int .i64 0, .slice none 0 0, .bool false, .int .i64 0, .slice none 0 0, .slice none 0 0] 29)).alloc (.cells #[.int .i64 n, .slice none 0 0, .bool true, .int .i64 0, .slice none 0 0, .slice none 0 0] 29) = w0) := hw0.symm
  have hB0 : Below w.heap.size w w0 := by rw [hw0]; exact (below_one _ _).alloc (by simp) _
  have hz0 : w0.heap[q]? = some (.cells #[.int .i64 0, .slice none 0 0, .bool false, .int .i64 0, .slice none 0 0, .slice none 0 0] 29 (0, 0)) := by
    rw [hw0, hq]
    exact ((below_one (w.alloc (.cells #[.int .i64 0, .slice none 0 0, .bool false, .int .i64 0, .slice none 0 0, .slice none 0 0] 29)) _).block w.heap.size (by simp)).trans (heap_alloc_new w _)
  have ht0 : w0.heap[q + 1]? = some (.cells #[.int .i64 n, .slice none 0 0, .bool true, .int .i64 0, .slice none 0 0, .slice none 0 0] 29 (0, 0)) := by
    rw [hw0, hq]
    have := heap_alloc_new (w.alloc (.cells #[.int .i64 0, .slice none 0 0, .bool false, .int .i64 0, .slice none 0 0, .slice none 0 0] 29)) (.cells #[.int .i64 n, .slice none 0 0, .bool true, .int .i64 0, .slice none 0 0, .slice none 0 0] 29)
    simpa using this
  have HZ0 : Hid _ := hz0
  have HT0 : Hid _ := ht0
  have HB0 : Hid (Below w.heap.size w w0) := hB0
  have HR0 : Hid (Rd w0 p S) := h.new hB0
  have HTB : Hid (Tab w0) := hT.old hB0
  have hpq : p < q := by omega
  obtain ⟨⟨a0, a1, a2, a3, a4, a5⟩, af0, af1, af2, af3, af4, af5⟩ := blk6 hz0
  obtain ⟨⟨b0, b1, b2, b3, b4, b5⟩, bf0, bf1, bf2, bf3, bf4, bf5⟩ := blk6 ht0
  have hla := block_lt hz0
  have hlb := block_lt ht0
  have HH2 : Hid _ := h2
  have HH4 : Hid _ := h4
  have HH1 : Hid _ := h1
  have t2 : (bits .and .i64 f 2 != 0) = true := h2
  have t4 : (bits .and .i64 f 4 == 0) = true := by have := h4; unfold bitX at this; simpa using this
  have t1 : (bits .and .i64 f 1 != 0) = true := h1
  clear h hT hw0 hB0 hq h2 h4 hz0 ht0 h1
  go_enter Tryd.func21, Tryd.ntmps21
  go_upto_region 2 with fail
  rw [HW0.out]
  clear HW0
  (try rw [HQE.out])
  go_wp2_with fail
  refine (read_value HR0.out).mono ?_
  rintro r w1 ⟨V, x, lx, cx, rfl, HR1, HX1, hF1, HV1, HK1⟩
  have hz1 : w1.heap[q]? = some (.cells #[.int .i64 0, .slice none 0 0, .bool false, .int .i64 0, .slice none 0 0, .slice none 0 0] 29 (0, 0)) := (HK1.out.block q hla (by omega)).trans HZ0.out
  have ht1 : w1.heap[q + 1]? = some (.cells #[.int .i64 n, .slice none 0 0, .bool true, .int .i64 0, .slice none 0 0, .slice none 0 0] 29 (0, 0)) := (HK1.out.block (q + 1) hlb (by omega)).trans HT0.out
  have HZ1 : Hid _ := hz1
  have HT1 : Hid _ := ht1
  obtain ⟨⟨a0, a1, a2, a3, a4, a5⟩, af0, af1, af2, af3, af4, af5⟩ := blk6 hz1
  obtain ⟨⟨b0, b1, b2, b3, b4, b5⟩, bf0, bf1, bf2, bf3, bf4, bf5⟩ := blk6 ht1
  have hla1 := block_lt hz1
  have hlb1 := block_lt ht1
  have hs1 := HK1.out.size
  have hs0 := HB0.out.size
  have HK1w : Hid (Kept (fun k => k = p) w w1) := (kept_of HB0.out).trans HK1.out (fun i hi e => e)
  have HX1b : Hid (IsBF (fun k => q + 1 < k) w1 x lx cx (sNums V.2)) := ⟨HX1.out, fun z hz _ => by have h1 := hF1 z hz; exact ⟨by omega, by omega⟩⟩
  have HTB1 : Hid (Tab w1) := HTB.out.kept HK1.out (by omega)
  clear hz1 ht1 hF1 HX1 HK1
  go_upto_region 4 with fail
  have hKA : Kept (fun k => k = q + 1) w1 ((w1.setCell ⟨q + 1, 3, none⟩ (.int .i64 V.1)).setCell ⟨q + 1, 4, none⟩ (.slice x lx cx)) := ((Kept.refl (fun k => k = q + 1) w1).setCell (p := ⟨q + 1, 3, none⟩) (fun _ => rfl) _).setCell (p := ⟨q + 1, 4, none⟩) (fun _ => rfl) _
  have ht2 : ((w1.setCell ⟨q + 1, 3, none⟩ (.int .i64 V.1)).setCell ⟨q + 1, 4, none⟩ (.slice x lx cx)).heap[q + 1]? = some (.cells #[.int .i64 n, .slice none 0 0, .bool true, .int .i64 V.1, .slice x lx cx, .slice none 0 0] 29 (0, 0)) := blk_set ((blk_set (HT1.out) 3 (.int .i64 V.1))) 4 (.slice x lx cx)
  generalize (w1.setCell ⟨q + 1, 3, none⟩ (.int .i64 V.1)).setCell ⟨q + 1, 4, none⟩ (.slice x lx cx) = w2 at hKA ht2 ⊢
  have HR2 : Hid (Rd w2 p (stepR valueR S)) := HR1.out.kept hKA (fun k hk e => by omega)
  have HX2 : Hid (IsBF (fun k => q + 1 < k) w2 x lx cx (sNums V.2)) := HX1b.out.apart hKA (fun k _ hk e => by omega)
  have HTB2 : Hid (Tab w2) := HTB1.out.kept hKA (by omega)
  have hz2 : w2.heap[q]? = some (.cells #[.int .i64 0, .slice none 0 0, .bool false, .int .i64 0, .slice none 0 0, .slice none 0 0] 29 (0, 0)) := (hKA.block q hla1 (by omega)).trans HZ1.out
  have HK2 : Hid (Kept (fun k => k = p) w w2) := HK1w.out.trans hKA (fun i hi e => by have := HQE.out; omega)
  have HSS : Hid (stepR (optR (bitX f 2) v0 valueR) S = stepR valueR S) := by rw [HH2.out]; rfl
  have HVV : Hid ((stepR valueR S).2 = 0 → V = (optR (bitX f 2) v0 valueR S.1).val) := by rw [HH2.out]; exact HV1.out
  have HZ2 : Hid _ := hz2
  have HT2 : Hid _ := ht2
  obtain ⟨⟨a0, a1, a2, a3, a4, a5⟩, af0, af1, af2, af3, af4, af5⟩ := blk6 hz2
  obtain ⟨⟨b0, b1, b2, b3, b4, b5⟩, bf0, bf1, bf2, bf3, bf4, bf5⟩ := blk6 ht2
  have hla2 := block_lt hz2
  have hlb2 := block_lt ht2
  obtain ⟨S1, hS1⟩ : ∃ S1, S1 = stepR valueR S := ⟨_, rfl⟩
  rw [← hS1] at HR2 HSS HVV
  clear hKA hz2 ht2 hS1 HR1 HV1 HX1b HTB1 HK1w HZ1 HT1 HZ0 HT0 HR0 HTB HB0
  go_wp2_with fail
  refine (rcolumns_true HR2.out HTB2.out hp0 hn).mono ?_
  rintro r w3 ⟨v, L, rfl, HR3, HO3, HL3, HK3⟩
  obtain ⟨ca, cc, hv⟩ := HO3.out.shape
  obtain ⟨cl, hcl⟩ : ∃ cl, cl = L.length := ⟨_, rfl⟩
  rw [← hcl] at hv
  subst hv
  have hz3 : w3.heap[q]? = some (.cells #[.int .i64 0, .slice none 0 0, .bool false, .int .i64 0, .slice none 0 0, .slice none 0 0] 29 (0, 0)) := (HK3.out.block q hla2 (by omega)).trans HZ2.out
  have ht3 : w3.heap[q + 1]? = some (.cells #[.int .i64 n, .slice none 0 0, .bool true, .int .i64 V.1, .slice x lx cx, .slice none 0 0] 29 (0, 0)) := (HK3.out.block (q + 1) hlb2 (by omega)).trans HT2.out
  have HZ3 : Hid _ := hz3
  have HT3 : Hid _ := ht3
  obtain ⟨⟨a0, a1, a2, a3, a4, a5⟩, af0, af1, af2, af3, af4, af5⟩ := blk6 hz3
  obtain ⟨⟨b0, b1, b2, b3, b4, b5⟩, bf0, bf1, bf2, bf3, bf4, bf5⟩ := blk6 ht3
  have hla3 := block_lt hz3
  have hlb3 := block_lt ht3
  have hs3 := HK3.out.size
  clear hz3 ht3 hcl
  go_upto_region 6 with fail
  have hKA : Kept (fun k => k = q + 1) w3 (w3.setCell ⟨q + 1, 1, none⟩ (.slice ca cl cc)) := one_kept w3 (q + 1) 1 _
  have ht4 : (w3.setCell ⟨q + 1, 1, none⟩ (.slice ca cl cc)).heap[q + 1]? = some (.cells #[.int .i64 n, .slice ca cl cc, .bool true, .int .i64 V.1, .slice x lx cx, .slice none 0 0] 29 (0, 0)) := blk_set HT3.out 1 _
  generalize w3.setCell ⟨q + 1, 1, none⟩ (.slice ca cl cc) = w4 at hKA ht4 ⊢
  have hz4 : w4.heap[q]? = some (.cells #[.int .i64 0, .slice none 0 0, .bool false, .int .i64 0, .slice none 0 0, .slice none 0 0] 29 (0, 0)) := (hKA.block q hla3 (by omega)).trans HZ3.out
  have HZ4 : Hid _ := hz4
  have HKA : Hid _ := hKA
  obtain ⟨⟨a0, a1, a2, a3, a4, a5⟩, af0, af1, af2, af3, af4, af5⟩ := blk6 hz4
  obtain ⟨⟨b0, b1, b2, b3, b4, b5⟩, bf0, bf1, bf2, bf3, bf4, bf5⟩ := blk6 ht4
  have hla4 := block_lt hz4
  have hlb4 := block_lt ht4
  clear hz4 ht4 hKA
  go_wp2_with fail
  have hKC : Kept (fun k => k = q) w4 ((((((w4.setCell ⟨q, 0, none⟩ (.int .i64 n)).setCell ⟨q, 1, none⟩ (.slice ca cl cc)).setCell ⟨q, 2, none⟩ (.bool true)).setCell ⟨q, 3, none⟩ (.int .i64 V.1)).setCell ⟨q, 4, none⟩ (.slice x lx cx)).setCell ⟨q, 5, none⟩ (.slice none 0 0)) := ((((((Kept.refl (fun k => k = q) w4).setCell (p := ⟨q, 0, none⟩) (fun _ => rfl) _).setCell (p := ⟨q, 1, none⟩) (fun _ => rfl) _).setCell (p := ⟨q, 2, none⟩) (fun _ => rfl) _).setCell (p := ⟨q, 3, none⟩) (fun _ => rfl) _).setCell (p := ⟨q, 4, none⟩) (fun _ => rfl) _).setCell (p := ⟨q, 5, none⟩) (fun _ => rfl) _
  have hzC : ((((((w4.setCell ⟨q, 0, none⟩ (.int .i64 n)).setCell ⟨q, 1, none⟩ (.slice ca cl cc)).setCell ⟨q, 2, none⟩ (.bool true)).setCell ⟨q, 3, none⟩ (.int .i64 V.1)).setCell ⟨q, 4, none⟩ (.slice x lx cx)).setCell ⟨q, 5, none⟩ (.slice none 0 0)).heap[q]? = some (.cells #[.int .i64 n, .slice ca cl cc, .bool true, .int .i64 V.1, .slice x lx cx, .slice none 0 0] 29 (0, 0)) := blk_set ((blk_set ((blk_set ((blk_set ((blk_set ((blk_set (HZ4.out) 0 (.int .i64 n))) 1 (.slice ca cl cc))) 2 (.bool true))) 3 (.int .i64 V.1))) 4 (.slice x lx cx))) 5 (.slice none 0 0)
  generalize (((((w4.setCell ⟨q, 0, none⟩ (.int .i64 n)).setCell ⟨q, 1, none⟩ (.slice ca cl cc)).setCell ⟨q, 2, none⟩ (.bool true)).setCell ⟨q, 3, none⟩ (.int .i64 V.1)).setCell ⟨q, 4, none⟩ (.slice x lx cx)).setCell ⟨q, 5, none⟩ (.slice none 0 0) = wC at hKC hzC ⊢
  obtain ⟨⟨z0, z1, z2, z3, z4, z5⟩, _⟩ := blk6 hzC
  have hKAC : Kept (fun k => k = q ∨ k = q + 1) w3 wC := (HKA.out.wider (fun k e => .inr e)).trans hKC (fun i hi e => .inl e)
  have e1 : stepR (tableR f n) S = stepR (colsR n true) S1 := by rw [table_step, HSS.out, HH4.out, HH1.out, Int.toNat_natCast]; rfl
  refine bodyPost_ret (v := .agg #[.int .i64 n, .slice ca cl cc, .bool true, .int .i64 V.1, .slice x lx cx, .slice none 0 0]) (by simp [results, Tryd.results21, go_sem, z0, z1, z2, z3, z4, z5]) rfl ?_
  refine ⟨ca, cl, cc, L, V, x, lx, cx, rfl, ?_, ?_, ?_, fun hh => ?_, (HK2.out.trans HK3.out (fun i hi e => e)).trans hKAC (fun i hi e => by have := HQE.out; rcases e with e | e <;> omega)⟩
  · rw [e1]; exact HR3.out.kept hKAC (fun k hk e => by rcases e with e | e <;> omega)
  · exact (HO3.out.apart (stays_col 20) hKAC (fun k _ hk e => by rcases e with e | e <;> omega)).sub (stays_col 20) (fun k _ hk => by have := HQE.out; omega)
  · exact ((HX2.out.apart HK3.out (fun k _ hk e => by omega)).apart hKAC (fun k _ hk e => by rcases e with e | e <;> omega)).stay (fun _ _ _ => rfl) (Nat.le_refl _) (fun k _ hk => by have := HQE.out; omega)
  · have hh2 := hh
    rw [e1] at hh2
    rw [table_val hh, HSS.out, ← HVV.out (step_fine hh2), HL3.out hh2, HH2.out, HH4.out, HH1.out, Int.toNat_natCast]
    rfl

set_option maxHeartbeats 2000000 in
theorem rtable_m_false {w : World} {p : Nat} {S : BE} (h : Rd w p S) (hT : Tab w) (hp0 : 0 < p) {f : Int} {n : Nat} (hn : n ≤ 4096) (h2 : bitX f 2 = true) (h4 : bitX f 4 = false) (h1 : bitX f 1 = false) :
    Calls Tryd.prog 21 #[.pointer (some ⟨p, 0, none⟩), .int .i64 f, .int .i64 n] w fun e w' => ∃ (ca : Option Addr) (cl cc : Nat) (L : List Col) (V : Vl) (x : Option Addr) (lx cx : Nat), e = .returned (.agg #[.int .i64 n, .slice ca cl cc, .bool true, .int .i64 V.1, .slice x lx cx, .slice none 0 0]) ∧ Hid (Rd w' p (stepR (tableR f n) S)) ∧ Hid (OwnI 64 8 (VCol 20) w' (fun k => w.heap.size ≤ k) (.slice ca cl cc) L) ∧ Hid (IsBF (fun k => w.heap.size ≤ k) w' x lx cx (sNums V.2)) ∧
      Hid ((stepR (tableR f n) S).2 = 0 → (((n : Nat) : Int), L, true, V, []) = (tableR f n S.1).val) ∧ Hid (Kept (fun k => k = p) w w') := by
  have hlt := h.lt
  obtain ⟨q, hq⟩ : ∃ q, q = w.heap.size := ⟨_, rfl⟩
  have HQE : Hid (w.heap.size = q) := hq.symm
  obtain ⟨w0, hw0⟩ : ∃ w0, w0 = (w.alloc (.cells #[.int .i64 0, .slice none 0 0, .bool false, .int .i64 0, .slice none 0 0, .slice none 0 0] 29)).alloc (.cells #[.int .i64 n, .slice none 0 0, .bool true, .int .i64 0, .slice none 0 0, .slice none 0 0] 29) := ⟨_, rfl⟩
  have HW0 : Hid ((w.alloc (.cells #[.int .i64 0, .slice none 0 0, .bool false, .int .i64 0, .slice none 0 0, .slice none 0 0] 29)).alloc (.cells #[.int .i64 n, .slice none 0 0, .bool true, .int .i64 0, .slice none 0 0, .slice none 0 0] 29) = w0) := hw0.symm
  have hB0 : Below w.heap.size w w0 := by rw [hw0]; exact (below_one _ _).alloc (by simp) _
  have hz0 : w0.heap[q]? = some (.cells #[.int .i64 0, .slice none 0 0, .bool false, .int .i64 0, .slice none 0 0, .slice none 0 0] 29 (0, 0)) := by
    rw [hw0, hq]
    exact ((below_one (w.alloc (.cells #[.int .i64 0, .slice none 0 0, .bool false, .int .i64 0, .slice none 0 0, .slice none 0 0] 29)) _).block w.heap.size (by simp)).trans (heap_alloc_new w _)
  have ht0 : w0.heap[q + 1]? = some (.cells #[.int .i64 n, .slice none 0 0, .bool true, .int .i64 0, .slice none 0 0, .slice none 0 0] 29 (0, 0)) := by
    rw [hw0, hq]
    have := heap_alloc_new (w.alloc (.cells #[.int .i64 0, .slice none 0 0, .bool false, .int .i64 0, .slice none 0 0, .slice none 0 0] 29)) (.cells #[.int .i64 n, .slice none 0 0, .bool true, .int .i64 0, .slice none 0 0, .slice none 0 0] 29)
    simpa using this
  have HZ0 : Hid _ := hz0
  have HT0 : Hid _ := ht0
  have HB0 : Hid (Below w.heap.size w w0) := hB0
  have HR0 : Hid (Rd w0 p S) := h.new hB0
  have HTB : Hid (Tab w0) := hT.old hB0
  have hpq : p < q := by omega
  obtain ⟨⟨a0, a1, a2, a3, a4, a5⟩, af0, af1, af2, af3, af4, af5⟩ := blk6 hz0
  obtain ⟨⟨b0, b1, b2, b3, b4, b5⟩, bf0, bf1, bf2, bf3, bf4, bf5⟩ := blk6 ht0
  have hla := block_lt hz0
  have hlb := block_lt ht0
  have HH2 : Hid _ := h2
  have HH4 : Hid _ := h4
  have HH1 : Hid _ := h1
  have t2 : (bits .and .i64 f 2 != 0) = true := h2
  have t4 : (bits .and .i64 f 4 == 0) = true := by have := h4; unfold bitX at this; simpa using this
  have t1 : (bits .and .i64 f 1 != 0) = false := h1
  clear h hT hw0 hB0 hq h2 h4 hz0 ht0 h1
  go_enter Tryd.func21, Tryd.ntmps21
  go_upto_region 2 with fail
  rw [HW0.out]
  clear HW0
  (try rw [HQE.out])
  go_wp2_with fail
  refine (read_value HR0.out).mono ?_
  rintro r w1 ⟨V, x, lx, cx, rfl, HR1, HX1, hF1, HV1, HK1⟩
  have hz1 : w1.heap[q]? = some (.cells #[.int .i64 0, .slice none 0 0, .bool false, .int .i64 0, .slice none 0 0, .slice none 0 0] 29 (0, 0)) := (HK1.out.block q hla (by omega)).trans HZ0.out
  have ht1 : w1.heap[q + 1]? = some (.cells #[.int .i64 n, .slice none 0 0, .bool true, .int .i64 0, .slice none 0 0, .slice none 0 0] 29 (0, 0)) := (HK1.out.block (q + 1) hlb (by omega)).trans HT0.out
  have HZ1 : Hid _ := hz1
  have HT1 : Hid _ := ht1
  obtain ⟨⟨a0, a1, a2, a3, a4, a5⟩, af0, af1, af2, af3, af4, af5⟩ := blk6 hz1
  obtain ⟨⟨b0, b1, b2, b3, b4, b5⟩, bf0, bf1, bf2, bf3, bf4, bf5⟩ := blk6 ht1
  have hla1 := block_lt hz1
  have hlb1 := block_lt ht1
  have hs1 := HK1.out.size
  have hs0 := HB0.out.size
  have HK1w : Hid (Kept (fun k => k = p) w w1) := (kept_of HB0.out).trans HK1.out (fun i hi e => e)
  have HX1b : Hid (IsBF (fun k => q + 1 < k) w1 x lx cx (sNums V.2)) := ⟨HX1.out, fun z hz _ => by have h1 := hF1 z hz; exact ⟨by omega, by omega⟩⟩
  have HTB1 : Hid (Tab w1) := HTB.out.kept HK1.out (by omega)
  clear hz1 ht1 hF1 HX1 HK1
  go_upto_region 4 with fail
  have hKA : Kept (fun k => k = q + 1) w1 ((w1.setCell ⟨q + 1, 3, none⟩ (.int .i64 V.1)).setCell ⟨q + 1, 4, none⟩ (.slice x lx cx)) := ((Kept.refl (fun k => k = q + 1) w1).setCell (p := ⟨q + 1, 3, none⟩) (fun _ => rfl) _).setCell (p := ⟨q + 1, 4, none⟩) (fun _ => rfl) _
  have ht2 : ((w1.setCell ⟨q + 1, 3, none⟩ (.int .i64 V.1)).setCell ⟨q + 1, 4, none⟩ (.slice x lx cx)).heap[q + 1]? = some (.cells #[.int .i64 n, .slice none 0 0, .bool true, .int .i64 V.1, .slice x lx cx, .slice none 0 0] 29 (0, 0)) := blk_set ((blk_set (HT1.out) 3 (.int .i64 V.1))) 4 (.slice x lx cx)
  generalize (w1.setCell ⟨q + 1, 3, none⟩ (.int .i64 V.1)).setCell ⟨q + 1, 4, none⟩ (.slice x lx cx) = w2 at hKA ht2 ⊢
  have HR2 : Hid (Rd w2 p (stepR valueR S)) := HR1.out.kept hKA (fun k hk e => by omega)
  have HX2 : Hid (IsBF (fun k => q + 1 < k) w2 x lx cx (sNums V.2)) := HX1b.out.apart hKA (fun k _ hk e => by omega)
  have HTB2 : Hid (Tab w2) := HTB1.out.kept hKA (by omega)
  have hz2 : w2.heap[q]? = some (.cells #[.int .i64 0, .slice none 0 0, .bool false, .int .i64 0, .slice none 0 0, .slice none 0 0] 29 (0, 0)) := (hKA.block q hla1 (by omega)).trans HZ1.out
  have HK2 : Hid (Kept (fun k => k = p) w w2) := HK1w.out.trans hKA (fun i hi e => by have := HQE.out; omega)
  have HSS : Hid (stepR (optR (bitX f 2) v0 valueR) S = stepR valueR S) := by rw [HH2.out]; rfl
  have HVV : Hid ((stepR valueR S).2 = 0 → V = (optR (bitX f 2) v0 valueR S.1).val) := by rw [HH2.out]; exact HV1.out
  have HZ2 : Hid _ := hz2
  have HT2 : Hid _ := ht2
  obtain ⟨⟨a0, a1, a2, a3, a4, a5⟩, af0, af1, af2, af3, af4, af5⟩ := blk6 hz2
  obtain ⟨⟨b0, b1, b2, b3, b4, b5⟩, bf0, bf1, bf2, bf3, bf4, bf5⟩ := blk6 ht2
  have hla2 := block_lt hz2
  have hlb2 := block_lt ht2
  obtain ⟨S1, hS1⟩ : ∃ S1, S1 = stepR valueR S := ⟨_, rfl⟩
  rw [← hS1] at HR2 HSS HVV
  clear hKA hz2 ht2 hS1 HR1 HV1 HX1b HTB1 HK1w HZ1 HT1 HZ0 HT0 HR0 HTB HB0
  go_wp2_with fail
  refine (rcolumns_false HR2.out HTB2.out hp0 hn).mono ?_
  rintro r w3 ⟨v, L, rfl, HR3, HO3, HL3, HK3⟩
  obtain ⟨ca, cc, hv⟩ := HO3.out.shape
  obtain ⟨cl, hcl⟩ : ∃ cl, cl = L.length := ⟨_, rfl⟩
  rw [← hcl] at hv
  subst hv
  have hz3 : w3.heap[q]? = some (.cells #[.int .i64 0, .slice none 0 0, .bool false, .int .i64 0, .slice none 0 0, .slice none 0 0] 29 (0, 0)) := (HK3.out.block q hla2 (by omega)).trans HZ2.out
  have ht3 : w3.heap[q + 1]? = some (.cells #[.int .i64 n, .slice none 0 0, .bool true, .int .i64 V.1, .slice x lx cx, .slice none 0 0] 29 (0, 0)) := (HK3.out.block (q + 1) hlb2 (by omega)).trans HT2.out
  have HZ3 : Hid _ := hz3
  have HT3 : Hid _ := ht3
  obtain ⟨⟨a0, a1, a2, a3, a4, a5⟩, af0, af1, af2, af3, af4, af5⟩ := blk6 hz3
  obtain ⟨⟨b0, b1, b2, b3, b4, b5⟩, bf0, bf1, bf2, bf3, bf4, bf5⟩ := blk6 ht3
  have hla3 := block_lt hz3
  have hlb3 := block_lt ht3
  have hs3 := HK3.out.size
  clear hz3 ht3 hcl
  go_upto_region 6 with fail
  have hKA : Kept (fun k => k = q + 1) w3 (w3.setCell ⟨q + 1, 1, none⟩ (.slice ca cl cc)) := one_kept w3 (q + 1) 1 _
  have ht4 : (w3.setCell ⟨q + 1, 1, none⟩ (.slice ca cl cc)).heap[q + 1]? = some (.cells #[.int .i64 n, .slice ca cl cc, .bool true, .int .i64 V.1, .slice x lx cx, .slice none 0 0] 29 (0, 0)) := blk_set HT3.out 1 _
  generalize w3.setCell ⟨q + 1, 1, none⟩ (.slice ca cl cc) = w4 at hKA ht4 ⊢
  have hz4 : w4.heap[q]? = some (.cells #[.int .i64 0, .slice none 0 0, .bool false, .int .i64 0, .slice none 0 0, .slice none 0 0] 29 (0, 0)) := (hKA.block q hla3 (by omega)).trans HZ3.out
  have HZ4 : Hid _ := hz4
  have HKA : Hid _ := hKA
  obtain ⟨⟨a0, a1, a2, a3, a4, a5⟩, af0, af1, af2, af3, af4, af5⟩ := blk6 hz4
  obtain ⟨⟨b0, b1, b2, b3, b4, b5⟩, bf0, bf1, bf2, bf3, bf4, bf5⟩ := blk6 ht4
  have hla4 := block_lt hz4
  have hlb4 := block_lt ht4
  clear hz4 ht4 hKA
  go_wp2_with fail
  have hKC : Kept (fun k => k = q) w4 ((((((w4.setCell ⟨q, 0, none⟩ (.int .i64 n)).setCell ⟨q, 1, none⟩ (.slice ca cl cc)).setCell ⟨q, 2, none⟩ (.bool true)).setCell ⟨q, 3, none⟩ (.int .i64 V.1)).setCell ⟨q, 4, none⟩ (.slice x lx cx)).setCell ⟨q, 5, none⟩ (.slice none 0 0)) := ((((((Kept.refl (fun k => k = q) w4).setCell (p := ⟨q, 0, none⟩) (fun _ => rfl) _).setCell (p := ⟨q, 1, none⟩) (fun _ => rfl) _).setCell (p := ⟨q, 2, none⟩) (fun _ => rfl) _).setCell (p := ⟨q, 3, none⟩) (fun _ => rfl) _).setCell (p := ⟨q, 4, none⟩) (fun _ => rfl) _).setCell (p := ⟨q, 5, none⟩) (fun _ => rfl) _
  have hzC : ((((((w4.setCell ⟨q, 0, none⟩ (.int .i64 n)).setCell ⟨q, 1, none⟩ (.slice ca cl cc)).setCell ⟨q, 2, none⟩ (.bool true)).setCell ⟨q, 3, none⟩ (.int .i64 V.1)).setCell ⟨q, 4, none⟩ (.slice x lx cx)).setCell ⟨q, 5, none⟩ (.slice none 0 0)).heap[q]? = some (.cells #[.int .i64 n, .slice ca cl cc, .bool true, .int .i64 V.1, .slice x lx cx, .slice none 0 0] 29 (0, 0)) := blk_set ((blk_set ((blk_set ((blk_set ((blk_set ((blk_set (HZ4.out) 0 (.int .i64 n))) 1 (.slice ca cl cc))) 2 (.bool true))) 3 (.int .i64 V.1))) 4 (.slice x lx cx))) 5 (.slice none 0 0)
  generalize (((((w4.setCell ⟨q, 0, none⟩ (.int .i64 n)).setCell ⟨q, 1, none⟩ (.slice ca cl cc)).setCell ⟨q, 2, none⟩ (.bool true)).setCell ⟨q, 3, none⟩ (.int .i64 V.1)).setCell ⟨q, 4, none⟩ (.slice x lx cx)).setCell ⟨q, 5, none⟩ (.slice none 0 0) = wC at hKC hzC ⊢
  obtain ⟨⟨z0, z1, z2, z3, z4, z5⟩, _⟩ := blk6 hzC
  have hKAC : Kept (fun k => k = q ∨ k = q + 1) w3 wC := (HKA.out.wider (fun k e => .inr e)).trans hKC (fun i hi e => .inl e)
  have e1 : stepR (tableR f n) S = stepR (colsR n false) S1 := by rw [table_step, HSS.out, HH4.out, HH1.out, Int.toNat_natCast]; rfl
  refine bodyPost_ret (v := .agg #[.int .i64 n, .slice ca cl cc, .bool true, .int .i64 V.1, .slice x lx cx, .slice none 0 0]) (by simp [results, Tryd.results21, go_sem, z0, z1, z2, z3, z4, z5]) rfl ?_
  refine ⟨ca, cl, cc, L, V, x, lx, cx, rfl, ?_, ?_, ?_, fun hh => ?_, (HK2.out.trans HK3.out (fun i hi e => e)).trans hKAC (fun i hi e => by have := HQE.out; rcases e with e | e <;> omega)⟩
  · rw [e1]; exact HR3.out.kept hKAC (fun k hk e => by rcases e with e | e <;> omega)
  · exact (HO3.out.apart (stays_col 20) hKAC (fun k _ hk e => by rcases e with e | e <;> omega)).sub (stays_col 20) (fun k _ hk => by have := HQE.out; omega)
  · exact ((HX2.out.apart HK3.out (fun k _ hk e => by omega)).apart hKAC (fun k _ hk e => by rcases e with e | e <;> omega)).stay (fun _ _ _ => rfl) (Nat.le_refl _) (fun k _ hk => by have := HQE.out; omega)
  · have hh2 := hh
    rw [e1] at hh2
    rw [table_val hh, HSS.out, ← HVV.out (step_fine hh2), HL3.out hh2, HH2.out, HH4.out, HH1.out, Int.toNat_natCast]
    rfl

theorem rtable {w : World} {p : Nat} {S : BE} (h : Rd w p S) (hT : Tab w) (hp0 : 0 < p) {f : Int} {n : Nat} (hn : n ≤ 4096) :
    Calls Tryd.prog 21 #[.pointer (some ⟨p, 0, none⟩), .int .i64 f, .int .i64 n] w fun e w' => ∃ (ca : Option Addr) (cl cc : Nat) (L : List Col) (m : Bool) (V : Vl) (x : Option Addr) (lx cx : Nat), e = .returned (.agg #[.int .i64 n, .slice ca cl cc, .bool m, .int .i64 V.1, .slice x lx cx, .slice none 0 0]) ∧ Hid (Rd w' p (stepR (tableR f n) S)) ∧ Hid (OwnI 64 8 (VCol 20) w' (fun k => w.heap.size ≤ k) (.slice ca cl cc) L) ∧ Hid (IsBF (fun k => w.heap.size ≤ k) w' x lx cx (sNums V.2)) ∧
      Hid ((stepR (tableR f n) S).2 = 0 → (((n : Nat) : Int), L, m, V, []) = (tableR f n S.1).val) ∧ Hid (Kept (fun k => k = p) w w') := by
  cases h2 : bitX f 2 <;> cases h4 : bitX f 4 <;> cases h1 : bitX f 1
  · exact (rtable_n_false h hT hp0 hn h2 h4 h1).mono (fun e w' ⟨ca, cl, cc, L, V, x, lx, cx, hh⟩ => ⟨ca, cl, cc, L, _, V, x, lx, cx, hh⟩)
  · exact (rtable_n_true h hT hp0 hn h2 h4 h1).mono (fun e w' ⟨ca, cl, cc, L, V, x, lx, cx, hh⟩ => ⟨ca, cl, cc, L, _, V, x, lx, cx, hh⟩)
  · exact (rtable_n_no h hT hp0 hn h2 h4).mono (fun e w' ⟨ca, cl, cc, L, V, x, lx, cx, hh⟩ => ⟨ca, cl, cc, L, _, V, x, lx, cx, hh⟩)
  · exact (rtable_n_no h hT hp0 hn h2 h4).mono (fun e w' ⟨ca, cl, cc, L, V, x, lx, cx, hh⟩ => ⟨ca, cl, cc, L, _, V, x, lx, cx, hh⟩)
  · exact (rtable_m_false h hT hp0 hn h2 h4 h1).mono (fun e w' ⟨ca, cl, cc, L, V, x, lx, cx, hh⟩ => ⟨ca, cl, cc, L, _, V, x, lx, cx, hh⟩)
  · exact (rtable_m_true h hT hp0 hn h2 h4 h1).mono (fun e w' ⟨ca, cl, cc, L, V, x, lx, cx, hh⟩ => ⟨ca, cl, cc, L, _, V, x, lx, cx, hh⟩)
  · exact (rtable_m_no h hT hp0 hn h2 h4).mono (fun e w' ⟨ca, cl, cc, L, V, x, lx, cx, hh⟩ => ⟨ca, cl, cc, L, _, V, x, lx, cx, hh⟩)
  · exact (rtable_m_no h hT hp0 hn h2 h4).mono (fun e w' ⟨ca, cl, cc, L, V, x, lx, cx, hh⟩ => ⟨ca, cl, cc, L, _, V, x, lx, cx, hh⟩)

end Go.Proofs.YtnapeecmlkkolaaDoor
