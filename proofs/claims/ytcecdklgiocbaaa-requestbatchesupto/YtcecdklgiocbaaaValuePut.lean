/-
  The contracts of prims.Value and of the document's Value.
-/
import Derived.Test.YtcecdklgiocbaaaTextPut
import Derived.Deep.DeepCutAuto
import Derived.Deep.RegionHeld3
import Derived.Laws.AppendOwnNone
namespace Go.Proofs.Ytcecdklgiocbaaa
open Go.RowKit
set_option maxRecDepth 100000
set_option linter.unusedVariables false
set_option linter.unusedSimpArgs false

/-- A slice of bytes that came in: it has the bytes zs; where there are any, its row is known. -/
def IsB (w : World) (a : Option Addr) (len cap : Nat) (zs : List Int) : Prop :=
  zs.length = len ∧ len ≤ cap ∧ cap ≤ maxLen ∧ (a = none → len = 0 ∧ cap = 0) ∧ (0 < len → ∃ b off, a = some ⟨b, off, none⟩ ∧ BRow w b off len cap zs)

theorem IsRow.isB {w : World} {a : Option Addr} {len cap : Nat} {zs : List Int} (h : IsRow .u8 w a len cap zs) : IsB w a len cap (zs.take len) := by
  have hle := h.le
  refine ⟨?_, hle.1, hle.2, ?_, ?_⟩
  · rcases h with ⟨_, rfl, _, rfl⟩ | ⟨y, h, hl, hm, hz, hcell, hwz⟩
    · simp
    · simp; omega
  · rcases h with ⟨_, rfl, _, rfl⟩ | ⟨y, rfl, hl, hm, hz, hcell, hwz⟩
    · intro _; exact ⟨rfl, by assumption⟩
    · intro h; cases h
  · intro hp
    obtain ⟨b, off, rfl, hlc, hm, hz, hb, hcell, hwf⟩ := h.at (by omega)
    refine ⟨b, off, rfl, by simp; omega, hlc, hm, fun _ => hb, fun i hi => ?_, range_of_wf (fun n hn => hwf n (List.mem_of_mem_take hn))⟩
    rw [hcell i (by omega), List.getD_eq_getElem?_getD, List.getD_eq_getElem?_getD, List.getElem?_take_of_lt hi]

theorem IsB.old {w W : World} {a : Option Addr} {len cap : Nat} {zs : List Int} (h : IsB w a len cap zs) (hB : Below w.heap.size w W) : IsB W a len cap zs := by
  obtain ⟨h1, h2, h3, h4, h5⟩ := h
  refine ⟨h1, h2, h3, h4, fun hp => ?_⟩
  obtain ⟨b, off, rfl, hR⟩ := h5 hp
  exact ⟨b, off, rfl, hR.old hB⟩

theorem IsB.conv {w : World} {a : Option Addr} {len cap : Nat} {zs : List Int} (h : IsB w a len cap zs) :
    (convert 23 9 (.slice a len cap)).run Try.prog w = .ok (.string (strOfNums zs)) w := by
  obtain ⟨h1, h2, h3, h4, h5⟩ := h
  by_cases hp : 0 < len
  · obtain ⟨b, off, rfl, hR⟩ := h5 hp
    exact hR.conv
  · obtain rfl : len = 0 := by omega
    obtain rfl : zs = [] := List.eq_nil_of_length_eq_zero h1
    exact conv_void a cap w

theorem IsB.range {w : World} {a : Option Addr} {len cap : Nat} {zs : List Int} (h : IsB w a len cap zs) : ∀ j : Nat, 0 ≤ zs[j]?.getD 0 ∧ zs[j]?.getD 0 ≤ 255 := by
  obtain ⟨h1, h2, h3, h4, h5⟩ := h
  by_cases hp : 0 < len
  · obtain ⟨b, off, rfl, hR⟩ := h5 hp
    exact hR.rng
  · obtain rfl : zs = [] := List.eq_nil_of_length_eq_zero (by omega)
    intro j; simp

theorem IsB.news {w : World} {x : Addr} {len cap : Nat} {zs : List Int} (h : IsB w (some x) len cap zs) :
    ∀ j u, (zs.map (Value.int .u8))[j]? = some u → w.cell? (x.add j) = some u := by
  obtain ⟨h1, h2, h3, h4, h5⟩ := h
  intro j u hj
  have hjl : j < len := by have := (List.getElem?_eq_some_iff.1 hj).1; simp at this; omega
  obtain ⟨b, off, hx, hR⟩ := h5 (by omega)
  cases hx
  have hplain : (⟨b, off, none⟩ : Addr).add j = ⟨b, off + j, none⟩ := by unfold Addr.add; split <;> simp_all
  rw [hplain, hR.cell j hjl, ← hj, List.getElem?_map, List.getD_eq_getElem?_getD, List.getElem?_eq_getElem (by omega)]
  rfl

theorem OwnB.mono {w : World} {base base' : Nat} {v : Value} {n : Nat} {X : List Int} (h : OwnB w base v n X) (hb : base' ≤ base) : OwnB w base' v n X := by
  obtain ⟨h1, h2⟩ := h
  refine ⟨h1, ?_⟩
  rcases h2 with h2 | ⟨g, cap, cur, h3, h4, h5⟩
  · exact .inl h2
  · exact .inr ⟨g, cap, cur, h3, Nat.le_trans hb h4, h5⟩

theorem u64_m1 : putL (IntKind.u64.wrap (-1)) 4 = [255, 255, 255, 255] := by decide +kernel
theorem u64_m2 : putL (IntKind.u64.wrap (-2)) 4 = [255, 255, 255, 254] := by decide +kernel

set_option maxHeartbeats 400000 in
theorem value_null (a : Option Addr) (len cap : Nat) (w : World) :
    Calls Try.prog 22 #[.agg #[.int .i64 0, .slice a len cap]] w fun e w' => ∃ v, e = .returned (.tuple #[v, .int .i64 0]) ∧ OwnB w' w.heap.size v 4 [255, 255, 255, 255] ∧ Below w.heap.size w w' := by
  go_enter Try.func22, Try.ntmps22
  go_wp2_with fail
  refine (putInt_any (-1) _).mono ?_
  rintro e w1 ⟨v, rfl, ho, hB⟩
  rw [u64_m1] at ho
  have HO : Hid (OwnB _ _ _ _ _) := ho
  clear ho
  go_wp2_with fail
  go_ret2
  exact ⟨v, rfl, HO.out.mono (by simp), (below_one _ _).trans (hB.mono (by simp))⟩

set_option maxHeartbeats 400000 in
theorem value_unset (a : Option Addr) (len cap : Nat) (w : World) :
    Calls Try.prog 22 #[.agg #[.int .i64 1, .slice a len cap]] w fun e w' => ∃ v, e = .returned (.tuple #[v, .int .i64 0]) ∧ OwnB w' w.heap.size v 4 [255, 255, 255, 254] ∧ Below w.heap.size w w' := by
  go_enter Try.func22, Try.ntmps22
  go_wp2_with fail
  refine (putInt_any (-2) _).mono ?_
  rintro e w1 ⟨v, rfl, ho, hB⟩
  rw [u64_m2] at ho
  have HO : Hid (OwnB _ _ _ _ _) := ho
  clear ho
  go_wp2_with fail
  go_ret2
  exact ⟨v, rfl, HO.out.mono (by simp), (below_one _ _).trans (hB.mono (by simp))⟩

set_option maxHeartbeats 400000 in
theorem value_none (k : Int) (a : Option Addr) (len cap : Nat) (w : World) (h0 : k ≠ 0) (h1 : k ≠ 1) (h2 : k ≠ 2) :
    Calls Try.prog 22 #[.agg #[.int .i64 k, .slice a len cap]] w fun e w' => e = .returned (.tuple #[.slice none 0 0, .int .i64 1]) ∧ Below w.heap.size w w' := by
  have t0 : (k == 0) = false := by simpa using h0
  have t1 : (k == 1) = false := by simpa using h1
  have t2 : (k == 2) = false := by simpa using h2
  clear h0 h1 h2
  go_enter Try.func22, Try.ntmps22
  go_wp2_with fail
  go_ret2
  exact ⟨rfl, below_one _ _⟩

theorem append_bytes_run {w : World} {base : Nat} {v : Value} {n : Nat} {X : List Int} (hown : OwnB w base v n X) {xa : Option Addr} {len cap : Nat} {zs : List Int} (hB : IsB w xa len cap zs) (hbd : n + len ≤ 140737488355328) (hbase : base ≤ w.heap.size) (ty : TypeId) :
    ∃ v' w', (Builtin.append_ #[23, 23] ty #[v, .slice xa len cap]).run Try.prog w = .ok v' w' ∧ OwnB w' base v' (n + len) (X ++ zs) ∧ Below base w w' := by
  obtain ⟨i0, hi, hz0, hz1, hz2⟩ := info_parts Try.info5
  cases xa with
  | none =>
    obtain ⟨h1, h2, h3, h4, h5⟩ := hB
    obtain ⟨rfl, rfl⟩ := h4 rfl
    obtain rfl : zs = [] := List.eq_nil_of_length_eq_zero h1
    refine ⟨v, w, run_append_owned_none (P := Try.prog) (w := w) base 23 ty 5 i0 1 Try.underlying23 hi v n _ hown, ?_, Below.refl _ _⟩
    rw [List.append_nil]; exact hown
  | some x =>
    have hl : (zs.map (Value.int .u8)).length = len * 1 := by rw [List.length_map, hB.1, Nat.mul_one]
    obtain ⟨v', w', hr, h2, h3, h4⟩ := run_append_own (P := Try.prog) w base 23 ty 5 i0 (.int .u8 0) 1 1 Try.underlying23 hi hz0 hz1 hz2 rfl (by decide) v n _ hown x len cap _ hl hB.news (bytes_one zs) (by unfold maxLen; omega) (by omega) hbase
    refine ⟨v', w', hr, OwnB.join h2 rfl, (Below.refl _ _).grown h3 hbase hown.block⟩

theorem step_append_bytes {ops : Array Oper} {o : Oper} {a : Act} {w : World} {K : Act → World → Prop} {Q : Exit → Act → World → Prop} {E : Prop} (hgd : o.guard = none) (s x : Operand)
    (ho : o.op = .call { callee := .builtin .append, args := #[s, x], argTypes := #[23, 23] })
    {base : Nat} {v : Value} {n : Nat} {X : List Int} (hs : a.eval s = v) (hown : OwnB w base v n X) {xa : Option Addr} {len cap : Nat} {zs : List Int} (hx : a.eval x = .slice xa len cap) (hB : IsB w xa len cap zs) (hbd : n + len ≤ 140737488355328) (hbase : base ≤ w.heap.size)
    (h : ∀ v' w', OwnB w' base v' (n + len) (X ++ zs) → Below base w w' → K (a.put o.dst v') w') :
    if Region.wanted o (yielded ops a.tmps) = true then Oper.wp Try.prog o a w K Q else E := by
  have hw : Region.wanted o (yielded ops a.tmps) = true := by simp [Region.wanted, hgd]
  rw [if_pos hw]
  obtain ⟨v', w', hr, h2, h3⟩ := append_bytes_run hown hB hbd hbase o.type
  unfold Oper.wp
  simp [execOp, ho, resolve, invoke, builtin, hs, hx, hr, Result.andThen]
  exact h v' w' h2 h3

theorem wpList_append_bytes {ops : Array Oper} {rest : List Oper} {o : Oper} {a : Act} {w : World} {Q : Exit → Act → World → Prop} (hgd : o.guard = none) (s x : Operand)
    (ho : o.op = .call { callee := .builtin .append, args := #[s, x], argTypes := #[23, 23] })
    {base : Nat} {v : Value} {n : Nat} {X : List Int} (hs : a.eval s = v) (hown : OwnB w base v n X) {xa : Option Addr} {len cap : Nat} {zs : List Int} (hx : a.eval x = .slice xa len cap) (hB : IsB w xa len cap zs) (hbd : n + len ≤ 140737488355328) (hbase : base ≤ w.heap.size)
    (h : ∀ v' w', OwnB w' base v' (n + len) (X ++ zs) → Below base w w' → wpList Try.prog ops Q rest (a.put o.dst v') w') : wpList Try.prog ops Q (o :: rest) a w := by
  refine wpList_plain hgd fun K hK => ?_
  obtain ⟨v', w', hr, h2, h3⟩ := append_bytes_run hown hB hbd hbase o.type
  unfold Oper.wp
  simp [execOp, ho, resolve, invoke, builtin, hs, hx, hr, Result.andThen]
  exact hK _ _ (h v' w' h2 h3)

/-- putInt behind the box of the argument: what it made, and the box and what it leads to still there. -/
theorem putInt_in (a : Option Addr) (len cap : Nat) (zs : List Int) (w W : World) (h : IsB w a len cap zs) (hl : len ≤ 140737488351232) (hW : Below (w.alloc (.cells #[.int .i64 2, .slice a len cap] 28)).heap.size (w.alloc (.cells #[.int .i64 2, .slice a len cap] 28)) W) :
    Calls Try.prog 66 #[.int .i64 len] W fun e w' => ∃ v, e = .returned v ∧ Hid (OwnB w' (w.heap.size + 1) v 4 (putL len 4)) ∧ Below w.heap.size w w' ∧ Hid (IsB w' a len cap zs) ∧
      w'.cell? ⟨w.heap.size, 1, none⟩ = some (.slice a len cap) ∧ w.heap.size + 1 ≤ w'.heap.size := by
  refine (putInt_any len W).mono ?_
  rintro e w1 ⟨v, rfl, ho, hB⟩
  rw [show IntKind.u64.wrap (len : Int) = len from by rw [IntKind.wrap_u64]; omega] at ho
  have hs := hW.size
  simp at hs
  have hB1 := hW.trans (hB.mono hW.size)
  have hB2 : Below w.heap.size w w1 := (below_one w _).trans (hB1.mono (by simp))
  have hs1 := hB1.size
  simp at hs1
  refine ⟨v, rfl, ho.mono (by omega), hB2, h.old hB2, ?_, by omega⟩
  rw [hB1.cell (by simp)]
  simp [go_sem]

theorem cell_on {w w1 w2 : World} {u : Value} {s : Nat} (hB : Below (s + 1) w1 w2) (h : w1.cell? ⟨s, 1, none⟩ = some u) : w2.cell? ⟨s, 1, none⟩ = some u := (hB.cell (by simp)).trans h

set_option maxHeartbeats 1000000 in
theorem value_set (a : Option Addr) (len cap : Nat) (zs : List Int) (w : World) (h : IsB w a len cap zs) (hsm : len ≤ 140737488351232) :
    Calls Try.prog 22 #[.agg #[.int .i64 2, .slice a len cap]] w fun e w' => ∃ v, e = .returned (.tuple #[v, .int .i64 0]) ∧ OwnB w' w.heap.size v (4 + len) (putL len 4 ++ zs) ∧ Below w.heap.size w w' := by
  have H : Hid (IsB w a len cap zs) := h
  have HBD : Hid (4 + len ≤ 140737488355328) := (by omega : 4 + len ≤ 140737488355328)
  clear h
  go_enter Try.func22, Try.ntmps22
  go_wp2_with fail
  go_region_held3 (fun w' => w'.cell? ⟨w.heap.size, 1, none⟩ = some (.slice a len cap)) (go_keep)
    (first
      | (go_at_call 66; refine (putInt_in a len cap zs w _ H.out hsm ?_).mono ?_; (exact (Below.refl _ _).drew); rintro e w1 ⟨v, rfl, HO, hB, HB, hc1, hs1⟩)
      | (refine step_append_bytes rfl (.tmp 17) (.tmp 19) rfl (by rfl) HO.out (by rfl) HB.out HBD.out hs1 ?_; intro v2 w2 ho2 hB2; have HO2 : Hid (OwnB _ _ _ _ _) := ho2; have hc2 := cell_on (w := w) hB2 hc1; clear ho2))
  go_wp2_with fail
  go_ret2
  exact ⟨v2, rfl, HO2.out.mono (by omega), hB.trans (hB2.mono (by omega))⟩

/-- A row of four bytes that is written out. -/
theorem own_four (w : World) (a b c d : Int) (base H : Nat) (hH : w.heap.size = H) (hb : base ≤ H) : OwnB (w.alloc (.cells #[.int .u8 a, .int .u8 b, .int .u8 c, .int .u8 d] 5)) base (.slice (some ⟨H, 0, none⟩) 4 4) 4 [a, b, c, d] := by
  subst hH
  exact ⟨rfl, .inr ⟨w.heap.size, 4, _, rfl, hb, heap_alloc_new w _, Nat.le_refl _, by unfold maxLen; omega, rfl, rfl⟩⟩

set_option maxHeartbeats 400000 in
theorem rvalue_null (s : ByteArray) (w : World) :
    Calls Try.prog 28 #[.agg #[.int .i64 0, .string s]] w fun e w' => ∃ v, e = .returned (.tuple #[v, .int .i64 0]) ∧ OwnB w' w.heap.size v 4 [255, 255, 255, 255] ∧ Below w.heap.size w w' := by
  go_enter Try.func28, Try.ntmps28
  go_wp2_with fail
  go_ret2
  exact ⟨_, rfl, own_four (w.alloc (.cells #[.int .i64 0, .string s] 43)) 255 255 255 255 w.heap.size (w.heap.size + 1) (by simp) (by omega), (below_one _ _).alloc (by simp) _⟩

set_option maxHeartbeats 400000 in
theorem rvalue_unset (s : ByteArray) (w : World) :
    Calls Try.prog 28 #[.agg #[.int .i64 1, .string s]] w fun e w' => ∃ v, e = .returned (.tuple #[v, .int .i64 0]) ∧ OwnB w' w.heap.size v 4 [255, 255, 255, 254] ∧ Below w.heap.size w w' := by
  go_enter Try.func28, Try.ntmps28
  go_wp2_with fail
  go_ret2
  exact ⟨_, rfl, own_four (w.alloc (.cells #[.int .i64 1, .string s] 43)) 255 255 255 254 w.heap.size (w.heap.size + 1) (by simp) (by omega), (below_one _ _).alloc (by simp) _⟩

set_option maxHeartbeats 400000 in
theorem rvalue_none (k : Int) (s : ByteArray) (w : World) (h0 : k ≠ 0) (h1 : k ≠ 1) (h2 : k ≠ 2) :
    Calls Try.prog 28 #[.agg #[.int .i64 k, .string s]] w fun e w' => e = .returned (.tuple #[.slice none 0 0, .int .i64 1]) ∧ Below w.heap.size w w' := by
  have t0 : (k == 0) = false := by simpa using h0
  have t1 : (k == 1) = false := by simpa using h1
  have t2 : (k == 2) = false := by simpa using h2
  clear h0 h1 h2
  go_enter Try.func28, Try.ntmps28
  go_wp2_with fail
  go_ret2
  exact ⟨rfl, below_one _ _⟩

set_option maxHeartbeats 400000 in
theorem rvalue_set (s : ByteArray) (w : World) (hs : s.size ≤ 140737488351232) :
    Calls Try.prog 28 #[.agg #[.int .i64 2, .string s]] w fun e w' => ∃ v, e = .returned (.tuple #[v, .int .i64 0]) ∧ OwnB w' w.heap.size v (4 + s.size) (putL s.size 4 ++ sNums s) ∧ Below w.heap.size w w' := by
  go_enter Try.func28, Try.ntmps28
  go_wp2_with fail
  refine (rlong_yes s _ hs).mono ?_
  rintro e w1 ⟨v, rfl, ho, hB⟩
  have HO : Hid (OwnB _ _ _ _ _) := ho
  clear ho
  go_wp2_with fail
  go_ret2
  exact ⟨v, rfl, HO.out.mono (by simp), (below_one _ _).trans (hB.mono (by simp))⟩
end Go.Proofs.Ytcecdklgiocbaaa
