/-
  A row of bytes of the call's own of which no cell is frozen, whatever mark its block bears: made of a string; append onto it.
-/
import Derived.Test.YtkcnmmlakimonaaPut
import Derived.ArgAppend
import Derived.Lib.ConvBytes
import Derived.Lib.EndianMore
import Derived.Deep.MidRow
namespace Go.Proofs.Ytkcnmmlakimonaa
open Go.RowKit
set_option maxRecDepth 100000
set_option linter.unusedVariables false
set_option linter.unusedSimpArgs false

/-- The slice v of n bytes X, in a block from base on, all of whose cells may be written. -/
def OwnC (w : World) (base : Nat) (v : Value) (n : Nat) (X : List Int) : Prop :=
  X.length = n ∧ (∀ j : Nat, 0 ≤ X[j]?.getD 0 ∧ X[j]?.getD 0 ≤ 255) ∧ ∃ g cap, v = .slice (some ⟨g, 0, none⟩) n cap ∧ base ≤ g ∧ g < w.heap.size ∧ n ≤ cap ∧ cap ≤ maxLen ∧
    (∀ i, i < n → w.cell? ⟨g, i, none⟩ = some (.int .u8 (X.getD i 0))) ∧ ∀ i, i < cap → (w.cell? ⟨g, i, none⟩).isSome = true ∧ w.frozen? ⟨g, i, none⟩ = false

theorem OwnC.isB {w : World} {base : Nat} {v : Value} {n : Nat} {X : List Int} (h : OwnC w base v n X) : ∃ a cap, v = .slice a n cap ∧ IsB w a n cap X ∧ Fresh base w a := by
  obtain ⟨h1, h2, g, cap, rfl, h3, h4, h5, h6, h7, h8⟩ := h
  exact ⟨_, cap, rfl, ⟨h1, h5, h6, (fun e => by cases e), fun hp => ⟨g, 0, rfl, h1, h5, h6, fun _ => h4, fun i hi => by rw [Nat.zero_add]; exact h7 i hi, h2⟩⟩, Fresh.at h3 h4⟩

theorem OwnC.old {w W : World} {base : Nat} {v : Value} {n : Nat} {X : List Int} (h : OwnC w base v n X) (hB : Below w.heap.size w W) : OwnC W base v n X := by
  obtain ⟨h1, h2, g, cap, rfl, h3, h4, h5, h6, h7, h8⟩ := h
  exact ⟨h1, h2, g, cap, rfl, h3, Nat.lt_of_lt_of_le h4 hB.size, h5, h6, fun i hi => (hB.cell h4).trans (h7 i hi), fun i hi => by rw [hB.cell h4, hB.frozen h4]; exact h8 i hi⟩

theorem OwnC.mono {w : World} {base base' : Nat} {v : Value} {n : Nat} {X : List Int} (h : OwnC w base v n X) (hb : base' ≤ base) : OwnC w base' v n X := by
  obtain ⟨h1, h2, g, cap, rfl, h3, h4⟩ := h
  exact ⟨h1, h2, g, cap, rfl, Nat.le_trans hb h3, h4⟩

/-- '[]byte(s)'. -/
theorem conv_own (w : World) (s : ByteArray) (hs : s.size ≤ maxLen) : ∃ v w', (convert 9 22 (.string s)).run Try.prog w = .ok v w' ∧ OwnC w' w.heap.size v s.size (sNums s) ∧ Below w.heap.size w w' := by
  have hge := grownCap_ge w s.size 0 5
  have hcap : grownCap w s.size 0 5 ≤ maxLen := grownCap_le_maxLen w s.size 0 5 hs
  have hsz : (Lib.bytesCells w 5 s).size = grownCap w s.size 0 5 := by
    simp [Lib.bytesCells]; omega
  refine ⟨_, _, Lib.run_convert_string_bytes (P := Try.prog) w 9 22 5 s Try.underlying9 Try.underlying22 Try.underlying5, ⟨sNums_length s, sNums_range s, w.heap.size, _, rfl, Nat.le_refl _, by rw [Lib.bytesWorld_size]; omega, hge, hcap, fun i hi => ?_, fun i hi => ⟨?_, ?_⟩⟩,
    ⟨rfl, rfl, rfl, by rw [Lib.bytesWorld_size]; omega, fun k hk => Lib.bytesWorld_at_old w 5 s k hk⟩⟩
  · rw [Lib.bytesWorld_cell w 5 s i hi]
    simp [sNums, List.getD_eq_getElem?_getD, hi]
  · simp only [World.cell?, Lib.bytesWorld_at_new]
    rw [Array.getElem?_eq_getElem (by rw [hsz]; exact hi)]
    rfl
  · simp only [World.frozen?, Lib.bytesWorld_at_new, Bool.and_eq_false_iff, decide_eq_false_iff_not]
    left
    rw [hsz]
    omega

/-- append of bytes onto such a row. -/
theorem append_c_run {w : World} {base : Nat} {v : Value} {n : Nat} {X : List Int} (hown : OwnC w base v n X) {xa : Option Addr} {len cap : Nat} {zs : List Int} (hB : IsB w xa len cap zs) (hp : 0 < len) (hbd : n + len ≤ 140737488355328) (hbase : base ≤ w.heap.size) (ty : TypeId) :
    ∃ v' w', (Builtin.append_ #[22, 22] ty #[v, .slice xa len cap]).run Try.prog w = .ok v' w' ∧ OwnC w' base v' (n + len) (X ++ zs) ∧ Below base w w' := by
  obtain ⟨i0, hi, hz0, hz1, hz2⟩ := info_parts Try.info5
  obtain ⟨h1, h2, g, cp, rfl, h3, h4, h5, h6, h7, h8⟩ := hown
  have hrr := hB.range
  have hlz := hB.1
  obtain ⟨b, off, rfl, hR⟩ := hB.2.2.2.2 hp
  have hnews := hB.news
  have hl : (zs.map (Value.int .u8)).length = len * 1 := by rw [List.length_map, hlz, Nat.mul_one]
  have hll : (zs.map (Value.int .u8)).length = len := by rw [List.length_map, hlz]
  by_cases hr : n + len ≤ cp
  · have hsp : ∀ j, j < (zs.map (Value.int .u8)).length → (w.cell? ⟨g, 0 + n * i0.size + j, none⟩).isSome = true ∧ w.frozen? ⟨g, 0 + n * i0.size + j, none⟩ = false := fun j hj => by
      rw [hll] at hj
      rw [show 0 + n * i0.size + j = n + j by rw [hz1]; omega]
      exact h8 (n + j) (by omega)
    have hrun := run_append_room_cells (P := Try.prog) w 22 ty 5 i0 Try.underlying22 hi g 0 n cp ⟨b, off, none⟩ len cap (zs.map (Value.int .u8)) (by rw [hz1]; exact hl) hnews (bytes_one zs) hr (fun j hj => (hsp j hj).1) (fun j hj => (hsp j hj).2)
    rw [show 0 + n * i0.size = n by rw [hz1]; omega] at hrun
    have hbel : Below base w (w.setCells g n (zs.map (Value.int .u8))) := Lib.below_setCells_w h3 _ _ w
    refine ⟨_, _, hrun, ⟨by rw [List.length_append]; omega, range_append h2 hrr, g, cp, rfl, h3, Nat.lt_of_lt_of_le h4 hbel.size, hr, h6, fun i hi' => ?_, fun i hi' => ⟨World.isSome_setCells g _ _ w _ (h8 i hi').1, by rw [World.frozen?_setCells]; exact (h8 i hi').2⟩⟩, hbel⟩
    by_cases hin : i < n
    · rw [World.cell?_setCells_out g _ _ w ⟨g, i, none⟩ (fun _ _ => .inl hin), h7 i hin]
      simp [List.getD_eq_getElem?_getD, List.getElem?_append_left, h1, hin]
    · obtain ⟨j, rfl⟩ : ∃ j, i = n + j := ⟨i - n, by omega⟩
      have hj : j < (zs.map (Value.int .u8)).length := by rw [hll]; omega
      rw [World.cell?_setCells_in g _ n w (fun k hk => h8 (n + k) (by rw [hll] at hk; omega) |>.1) j hj]
      have hjz : j < zs.length := by omega
      simp [List.getD_eq_getElem?_getD, List.getElem?_append_right, h1, hjz]
  · obtain ⟨v', w', hrun, r1, r2⟩ := run_append_arg_grows (P := Try.prog) w 22 ty 5 i0 (.int .u8 0) 1 1 Try.underlying22 hi hz0 hz1 hz2 rfl (by decide) ⟨g, 0, none⟩ n cp (X.map (Value.int .u8)) (by rw [List.length_map]; omega) (fun j u hj => by
      rw [List.getElem?_map] at hj
      by_cases hjn : j < X.length
      · rw [List.getElem?_eq_getElem hjn] at hj
        simp only [Option.map_some, Option.some.injEq] at hj
        subst hj
        rw [Addr.add_lit, Nat.zero_add, h7 j (by omega)]
        simp [List.getD_eq_getElem?_getD, hjn]
      · rw [List.getElem?_eq_none (by omega)] at hj
        simp at hj) ⟨b, off, none⟩ len cap _ hl hnews (by omega) (by unfold maxLen; omega) (by omega)
    have hB' : Below base w w' := (Below.refl _ _).grown r2 hbase (fun k hk => by cases hk)
    refine ⟨v', w', hrun, ?_, hB'⟩
    rcases r1.2 with ⟨_, h0⟩ | ⟨g', cap', cur, rfl, hg, hh, hnc, hm, hs, htake⟩
    · omega
    · have hgl := block_lt hh
      refine ⟨by rw [List.length_append]; omega, range_append h2 hrr, g', cap', rfl, Nat.le_trans hbase hg, hgl, hnc, hm, fun i hi' => ?_, fun i hi' => ⟨?_, ?_⟩⟩
      · have hcell := r1.cells (g := g') rfl i (.int .u8 ((X ++ zs).getD i 0)) (by
          rw [← List.map_append, List.getElem?_map, List.getD_eq_getElem?_getD, List.getElem?_eq_getElem (by rw [List.length_append]; omega)]
          rfl)
        have hplain : (⟨g', 0, none⟩ : Addr).add i = ⟨g', i, none⟩ := by unfold Addr.add; split <;> simp_all
        rwa [hplain] at hcell
      · simp only [World.cell?, hh]
        rw [Array.getElem?_eq_getElem (by rw [hs]; omega)]
        rfl
      · simp [World.frozen?, hh]

theorem wpList_append_c {ops : Array Oper} {rest : List Oper} {o : Oper} {a : Act} {w : World} {Q : Exit → Act → World → Prop} (hgd : o.guard = none) (s x : Operand)
    (ho : o.op = .call { callee := .builtin .append, args := #[s, x], argTypes := #[22, 22] })
    {base : Nat} {v : Value} {n : Nat} {X : List Int} (hs : a.eval s = v) (hown : OwnC w base v n X) {xa : Option Addr} {len cap : Nat} {zs : List Int} (hx : a.eval x = .slice xa len cap) (hB : IsB w xa len cap zs) (hp : 0 < len) (hbd : n + len ≤ 140737488355328) (hbase : base ≤ w.heap.size)
    (h : ∀ v' w', OwnC w' base v' (n + len) (X ++ zs) → Below base w w' → wpList Try.prog ops Q rest (a.put o.dst v') w') : wpList Try.prog ops Q (o :: rest) a w := by
  refine wpList_plain hgd fun K hK => ?_
  obtain ⟨v', w', hr, h2, h3⟩ := append_c_run hown hB hp hbd hbase o.type
  unfold Oper.wp
  simp [execOp, ho, resolve, invoke, builtin, hs, hx, hr, Result.andThen]
  exact hK _ _ (h v' w' h2 h3)

theorem wpList_conv_own {ops : Array Oper} {rest : List Oper} {o : Oper} {a : Act} {w : World} {Q : Exit → Act → World → Prop} (hgd : o.guard = none) (x : Operand) (ho : o.op = .convert 9 22 x) {s : ByteArray} (hx : a.eval x = .string s) (hs : s.size ≤ maxLen)
    (h : ∀ v' w', OwnC w' w.heap.size v' s.size (sNums s) → Below w.heap.size w w' → wpList Try.prog ops Q rest (a.put o.dst v') w') : wpList Try.prog ops Q (o :: rest) a w := by
  refine wpList_plain hgd fun K hK => ?_
  obtain ⟨v', w', hr, h2, h3⟩ := conv_own w s hs
  unfold Oper.wp
  simp [execOp, ho, hx, hr, Result.andThen]
  exact hK _ _ (h v' w' h2 h3)
end Go.Proofs.Ytkcnmmlakimonaa
