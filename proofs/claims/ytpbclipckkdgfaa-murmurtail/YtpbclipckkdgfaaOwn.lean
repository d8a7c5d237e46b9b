/-
  A slice of bytes that came in, one that owns its row, and what append makes of both.
-/
import Derived.Test.YtpbclipckkdgfaaArg
import Derived.Laws.AppendOwnNone
namespace Go.Proofs.Ytpbclipckkdgfaa
open Go.RowKit
set_option linter.unusedVariables false

theorem Try.info5 : (Try.prog.info? 5).map (fun i => (i.zero, i.size, i.bytes)) = some (some (.int .u8 0), 1, 1) := by kernel_rfl

theorem bytes_one (zs : List Int) : ∀ v ∈ zs.map (Value.int .u8), v.oneCell' = true := by
  intro v hv; obtain ⟨z, _, rfl⟩ := List.mem_map.1 hv; rfl

/-- The slice at block b from off on, len long, has the bytes zs. -/
structure BRow (w : World) (b off len cap : Nat) (zs : List Int) : Prop where
  len_eq : zs.length = len
  le : len ≤ cap
  cap_le : cap ≤ maxLen
  lt : 0 < len → b < w.heap.size
  cell : ∀ i, i < len → w.cell? ⟨b, off + i, none⟩ = some (.int .u8 (zs.getD i 0))
  rng : ∀ j : Nat, 0 ≤ zs[j]?.getD 0 ∧ zs[j]?.getD 0 ≤ 255

theorem BRow.below {w W : World} {b off len cap : Nat} {zs : List Int} (h : BRow w b off len cap zs) {base : Nat} (hB : Below base w W) (hb : 0 < len → b < base) : BRow W b off len cap zs :=
  ⟨h.len_eq, h.le, h.cap_le, fun hl => Nat.lt_of_lt_of_le (h.lt hl) hB.size, fun i hi => (hB.cell (hb (by omega))).trans (h.cell i hi), h.rng⟩

theorem BRow.old {w W : World} {b off len cap : Nat} {zs : List Int} (h : BRow w b off len cap zs) (hB : Below w.heap.size w W) : BRow W b off len cap zs := h.below hB h.lt

/-- A slice of bytes that came in: it has the bytes zs; where there are any, its row is known. -/
def IsB (w : World) (a : Option Addr) (len cap : Nat) (zs : List Int) : Prop :=
  zs.length = len ∧ len ≤ cap ∧ cap ≤ maxLen ∧ (a = none → len = 0 ∧ cap = 0) ∧ (0 < len → ∃ b off, a = some ⟨b, off, none⟩ ∧ BRow w b off len cap zs)

theorem IsRow.isB {w : World} {a : Option Addr} {len cap : Nat} {zs : List Int} (h : IsRow .u8 w a len cap zs) : IsB w a len cap (zs.take len) := by
  have hle := h.le
  refine ⟨?_, hle.1, hle.2, ?_, ?_⟩
  · rcases h with ⟨_, rfl, _, rfl⟩ | ⟨y, h, hl, hm, hz, hcell, hwz⟩
    · simp
    · simp; omega
  · rcases h with ⟨_, rfl, _, rfl⟩ | ⟨y, rfl, hl, hm, hz, hcell, hwz⟩
    · intro _; exact ⟨rfl, by assumption⟩
    · intro h; cases h
  · intro hp
    obtain ⟨b, off, rfl, hlc, hm, hz, hb, hcell, hwf⟩ := h.at (by omega)
    refine ⟨b, off, rfl, by simp; omega, hlc, hm, fun _ => hb, fun i hi => ?_, range_of_wf (fun n hn => hwf n (List.mem_of_mem_take hn))⟩
    rw [hcell i (by omega), List.getD_eq_getElem?_getD, List.getD_eq_getElem?_getD, List.getElem?_take_of_lt hi]

theorem IsB.old {w W : World} {a : Option Addr} {len cap : Nat} {zs : List Int} (h : IsB w a len cap zs) (hB : Below w.heap.size w W) : IsB W a len cap zs := by
  obtain ⟨h1, h2, h3, h4, h5⟩ := h
  refine ⟨h1, h2, h3, h4, fun hp => ?_⟩
  obtain ⟨b, off, rfl, hR⟩ := h5 hp
  exact ⟨b, off, rfl, hR.old hB⟩

theorem IsB.news {w : World} {x : Addr} {len cap : Nat} {zs : List Int} (h : IsB w (some x) len cap zs) :
    ∀ j u, (zs.map (Value.int .u8))[j]? = some u → w.cell? (x.add j) = some u := by
  obtain ⟨h1, h2, h3, h4, h5⟩ := h
  intro j u hj
  have hjl : j < len := by have := (List.getElem?_eq_some_iff.1 hj).1; simp at this; omega
  obtain ⟨b, off, hx, hR⟩ := h5 (by omega)
  cases hx
  have hplain : (⟨b, off, none⟩ : Addr).add j = ⟨b, off + j, none⟩ := by unfold Addr.add; split <;> simp_all
  rw [hplain, hR.cell j hjl, ← hj, List.getElem?_map, List.getD_eq_getElem?_getD, List.getElem?_eq_getElem (by omega)]
  rfl

/-- A slice that owns its row of bytes X, n long. -/
def OwnB (w : World) (base : Nat) (v : Value) (n : Nat) (X : List Int) : Prop := w.ownsRow base 5 1 v n (X.map (Value.int .u8))

theorem OwnB.len {w : World} {base : Nat} {v : Value} {n : Nat} {X : List Int} (h : OwnB w base v n X) : X.length = n := by
  have := h.1; simpa using this

theorem OwnB.join {w : World} {base : Nat} {v : Value} {n m : Nat} {X Y : List Int} {cs : List Value} (h : w.ownsRow base 5 1 v (n + m) (X.map (Value.int .u8) ++ cs)) (hc : cs = Y.map (Value.int .u8)) : OwnB w base v (n + m) (X ++ Y) := by
  subst hc; rw [← List.map_append] at h; exact h

theorem OwnB.block {w : World} {base : Nat} {v : Value} {n : Nat} {X : List Int} (h : OwnB w base v n X) : ∀ k, v.ownBlock = some k → base ≤ k := fun k hk => (World.ownsRow.lt h k hk).1

theorem append_bytes_run {w : World} {base : Nat} {v : Value} {n : Nat} {X : List Int} (hown : OwnB w base v n X) {xa : Option Addr} {len cap : Nat} {zs : List Int} (hB : IsB w xa len cap zs) (hbd : n + len ≤ 140737488355328) (hbase : base ≤ w.heap.size) (ty : TypeId) :
    ∃ v' w', (Builtin.append_ #[22, 22] ty #[v, .slice xa len cap]).run Try.prog w = .ok v' w' ∧ OwnB w' base v' (n + len) (X ++ zs) ∧ Below base w w' := by
  obtain ⟨i0, hi, hz0, hz1, hz2⟩ := info_parts Try.info5
  cases xa with
  | none =>
    obtain ⟨h1, h2, h3, h4, h5⟩ := hB
    obtain ⟨rfl, rfl⟩ := h4 rfl
    obtain rfl : zs = [] := List.eq_nil_of_length_eq_zero h1
    refine ⟨v, w, run_append_owned_none (P := Try.prog) (w := w) base 22 ty 5 i0 1 Try.underlying22 hi v n _ hown, ?_, Below.refl _ _⟩
    rw [List.append_nil]; exact hown
  | some x =>
    have hl : (zs.map (Value.int .u8)).length = len * 1 := by rw [List.length_map, hB.1, Nat.mul_one]
    obtain ⟨v', w', hr, h2, h3, h4⟩ := run_append_own (P := Try.prog) w base 22 ty 5 i0 (.int .u8 0) 1 1 Try.underlying22 hi hz0 hz1 hz2 rfl (by decide) v n _ hown x len cap _ hl hB.news (bytes_one zs) (by unfold maxLen; omega) (by omega) hbase
    refine ⟨v', w', hr, OwnB.join h2 rfl, (Below.refl _ _).grown h3 hbase hown.block⟩

theorem wpList_append_bytes {ops : Array Oper} {rest : List Oper} {o : Oper} {a : Act} {w : World} {Q : Exit → Act → World → Prop} (hgd : o.guard = none) (s x : Operand)
    (ho : o.op = .call { callee := .builtin .append, args := #[s, x], argTypes := #[22, 22] })
    {base : Nat} {v : Value} {n : Nat} {X : List Int} (hs : a.eval s = v) (hown : OwnB w base v n X) {xa : Option Addr} {len cap : Nat} {zs : List Int} (hx : a.eval x = .slice xa len cap) (hB : IsB w xa len cap zs) (hbd : n + len ≤ 140737488355328) (hbase : base ≤ w.heap.size)
    (h : ∀ v' w', OwnB w' base v' (n + len) (X ++ zs) → Below base w w' → wpList Try.prog ops Q rest (a.put o.dst v') w') : wpList Try.prog ops Q (o :: rest) a w := by
  refine wpList_plain hgd fun K hK => ?_
  obtain ⟨v', w', hr, h2, h3⟩ := append_bytes_run hown hB hbd hbase o.type
  unfold Oper.wp
  simp [execOp, ho, resolve, invoke, builtin, hs, hx, hr, Result.andThen]
  exact hK _ _ (h v' w' h2 h3)

/-- The bytes of a slice that owns its row, as the sum takes them. -/
theorem OwnB.byR {w : World} {base : Nat} {v : Value} {n : Nat} {X : List Int} (h : OwnB w base v n X) (hr : ∀ i, 0 ≤ X.getD i 0 ∧ X.getD i 0 ≤ 255) :
    ∃ a cap, v = .slice a n cap ∧ ByR w a n cap (fun i => X.getD i 0) := by
  have hl := h.len
  obtain ⟨hlen, h2⟩ := id h
  rcases h2 with ⟨rfl, rfl⟩ | ⟨g, cap, cur, rfl, hg, hh, hc, hm, hs, hx⟩
  · exact ⟨none, 0, rfl, hr, .inl ⟨rfl, rfl⟩⟩
  · refine ⟨_, cap, rfl, hr, .inr ⟨g, 0, rfl, hc, hm, fun t ht => ?_⟩⟩
    rw [Nat.zero_add, World.ownsRow.cellAt h t (by omega)]
    simp [show t < X.length by omega]

theorem own_none (w : World) (base : Nat) : OwnB w base (.slice none 0 0) 0 [] := World.ownsRow_nil _ _ _ _

/-- One byte that was laid anew. -/
theorem isB_one (w : World) (y : Int) (h0 : 0 ≤ y) (h1 : y ≤ 255) : IsB (w.alloc (.cells #[.int .u8 y] 5)) (some ⟨w.heap.size, 0, none⟩) 1 1 [y] := by
  refine ⟨rfl, Nat.le_refl _, by unfold maxLen; omega, fun h => by (cases h), fun _ => ⟨_, _, rfl, rfl, Nat.le_refl _, by unfold maxLen; omega, fun _ => by simp, fun i hi => ?_, fun j => ?_⟩⟩
  · obtain rfl : i = 0 := by omega
    simp [go_sem]
  · match j with
    | 0 => exact ⟨h0, h1⟩
    | j + 1 => simp

theorem OwnB.laid {w : World} {base : Nat} {v : Value} {n : Nat} {X : List Int} (h : OwnB w base v n X) (o : Obj) : OwnB (w.alloc o) base v n X := World.ownsRow.alloc h o

theorem upto_range (B : Nat → Int) (hB : ∀ i, 0 ≤ B i ∧ B i ≤ 255) (n : Nat) : ∀ i : Nat, 0 ≤ ((List.range n).map B).getD i 0 ∧ ((List.range n).map B).getD i 0 ≤ 255 := by
  intro i
  by_cases h : i < n
  · simp only [List.getD_eq_getElem?_getD, List.getElem?_map, List.getElem?_range h, Option.map_some, Option.getD_some]; exact hB i
  · simp [List.getD_eq_getElem?_getD, h]

theorem upto_succ (B : Nat → Int) (n : Nat) : (List.range (n + 1)).map B = (List.range n).map B ++ [B n] := by
  rw [List.range_succ]; simp
end Go.Proofs.Ytpbclipckkdgfaa
