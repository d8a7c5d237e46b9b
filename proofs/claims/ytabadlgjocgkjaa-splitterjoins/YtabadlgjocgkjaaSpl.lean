/-
  A splitter in memory: what it keeps; append onto what is kept; the contracts of splitter.New, Left, fail, sizeOf and of bytes.Clone.
-/
import Derived.Test.YtabadlgjocgkjaaKeep
import Derived.Test.YtabadlgjocgkjaaSpMath
namespace Go.Proofs.Ytabadlgjocgkjaa
open Go.RowKit
set_option linter.unusedVariables false
set_option linter.unusedSimpArgs false

abbrev Bs (X : List Int) : Prop := ∀ j : Nat, 0 ≤ X[j]?.getD 0 ∧ X[j]?.getD 0 ≤ 255

theorem OwnB.isB0 {w : World} {base : Nat} {v : Value} {n : Nat} {X : List Int} (h : OwnB w base v n X) (hr : Bs X) :
    ∃ x cap, v = .slice x n cap ∧ IsB w x n cap X ∧ ∀ p, x = some p → base ≤ p.block ∧ p.block < w.heap.size := by
  have hl := h.len
  obtain ⟨h1, h2⟩ := id h
  rcases h2 with ⟨rfl, rfl⟩ | ⟨g, cap, cur, rfl, hg, hh, hnc, hm, hs, htake⟩
  · obtain rfl : X = [] := List.eq_nil_of_length_eq_zero hl
    exact ⟨none, 0, rfl, isB_nil w, fun p e => by cases e⟩
  · have hgs := (Array.getElem?_eq_some_iff.1 hh).1
    refine ⟨_, cap, rfl, ⟨hl, hnc, hm, (fun e => by cases e), fun hp => ?_⟩, fun p e => by cases e; exact ⟨hg, hgs⟩⟩
    obtain ⟨g', cap', he, _, _, hR⟩ := h.row hp hr
    simp only [Value.slice.injEq, Option.some.injEq, Addr.mk.injEq, and_true, true_and] at he
    obtain ⟨rfl, rfl⟩ := he
    exact ⟨g, 0, rfl, hR⟩

/-- What a splitter keeps: a slice of the bytes K that has no room behind it, or whose row is its own. -/
def KeptV (w : World) (kv : Value) (K : List Int) : Prop :=
  Bs K ∧ ∃ a cap, kv = .slice a K.length cap ∧ IsB w a K.length cap K ∧ (∀ p, a = some p → p.block < w.heap.size) ∧ (cap = K.length ∨ OwnB w 0 kv K.length K)

theorem keptV_nil (w : World) : KeptV w (.slice none 0 0) [] := ⟨fun j => by simp, none, 0, rfl, isB_nil w, fun p e => (by cases e), .inl rfl⟩

theorem KeptV.lt {w : World} {kv : Value} {K : List Int} (h : KeptV w kv K) : ∀ k, kv.ownBlock = some k → k < w.heap.size := by
  obtain ⟨hr, a, cap, rfl, hI, hp, _⟩ := h
  intro k hk
  cases a with
  | none => simp [Value.ownBlock] at hk
  | some p => simp only [Value.ownBlock, Option.some.injEq] at hk; subst hk; exact hp p rfl

theorem KeptV.kept {S : Nat → Prop} {w W : World} {kv : Value} {K : List Int} (h : KeptV w kv K) (hK : Kept S w W) (hn : ∀ k, kv.ownBlock = some k → ¬ S k) : KeptV W kv K := by
  obtain ⟨hr, a, cap, rfl, hI, hp, ho⟩ := h
  refine ⟨hr, a, cap, rfl, hI.kept hK (fun p e _ => hn _ (by subst e; rfl)), fun p e => Nat.lt_of_lt_of_le (hp p e) hK.size, ?_⟩
  rcases ho with ho | ho
  · exact .inl ho
  · exact .inr (ownsRow_kept ho hK hn)

theorem OwnB.keptV {w : World} {base : Nat} {v : Value} {K : List Int} (h : OwnB w base v K.length K) (hr : Bs K) : KeptV w v K := by
  obtain ⟨x, cap, rfl, hI, hp⟩ := h.isB0 hr
  exact ⟨hr, x, cap, rfl, hI, fun p e => (hp p e).2, .inr (h.mono (Nat.zero_le _))⟩

theorem IsB.bs {w : World} {a : Option Addr} {len cap : Nat} {zs : List Int} (h : IsB w a len cap zs) : Bs zs := h.range

/-- append of bytes onto what is kept. -/
theorem kept_append {w : World} {kv : Value} {K : List Int} (h : KeptV w kv K) {xa : Option Addr} {len cap : Nat} {bs : List Int} (hB : IsB w xa len cap bs) (hbd : K.length + len ≤ 140737488355328) (ty : TypeId) :
    ∃ v' w', (Builtin.append_ #[26, 26] ty #[kv, .slice xa len cap]).run Try.prog w = .ok v' w' ∧ KeptV w' v' (K ++ bs) ∧ Kept (fun k => kv.ownBlock = some k) w w' ∧ (v'.ownBlock = kv.ownBlock ∨ v'.ownBlock = some w.heap.size) := by
  obtain ⟨i0, hi, hz0, hz1, hz2⟩ := info_parts Try.info5
  have hlen := hB.1
  have hrr : Bs (K ++ bs) := range_append h.1 hB.range
  have own : OwnB w 0 kv K.length K → ∃ v' w', (Builtin.append_ #[26, 26] ty #[kv, .slice xa len cap]).run Try.prog w = .ok v' w' ∧ KeptV w' v' (K ++ bs) ∧ Kept (fun k => kv.ownBlock = some k) w w' ∧ (v'.ownBlock = kv.ownBlock ∨ v'.ownBlock = some w.heap.size) := by
    intro hown
    cases xa with
    | none =>
      obtain ⟨h1, h2, h3, h4, h5⟩ := hB
      obtain ⟨rfl, rfl⟩ := h4 rfl
      obtain rfl : bs = [] := List.eq_nil_of_length_eq_zero h1
      refine ⟨kv, w, run_append_owned_none (P := Try.prog) (w := w) 0 26 ty 5 i0 1 Try.underlying26 hi kv _ _ hown, ?_, Kept.refl _ _, .inl rfl⟩
      rw [List.append_nil]; exact h
    | some x =>
      have hl : (bs.map (Value.int .u8)).length = len * 1 := by rw [List.length_map, hB.1, Nat.mul_one]
      obtain ⟨v', w', hr, h2, h3, _, h5⟩ := run_append_own_at (P := Try.prog) w 0 26 ty 5 i0 (.int .u8 0) 1 1 Try.underlying26 hi hz0 hz1 hz2 rfl (by decide) kv K.length _ hown x len cap _ hl hB.news (bytes_one bs) (by unfold maxLen; omega) (by omega) (by omega)
      have h2' : OwnB w' 0 v' (K ++ bs).length (K ++ bs) := by
        rw [List.length_append, hlen]; exact OwnB.join h2 rfl
      exact ⟨v', w', hr, h2'.keptV hrr, kept_grown h3, h5⟩
  obtain ⟨hr, a, c, hv, hI, hp, ho⟩ := id h
  rcases ho with rfl | ho
  · by_cases h0 : len = 0
    · subst h0
      obtain rfl : bs = [] := List.eq_nil_of_length_eq_zero hlen
      refine ⟨kv, w, ?_, by rw [List.append_nil]; exact h, Kept.refl _ _, .inl rfl⟩
      rw [hv]
      cases xa with
      | none =>
        obtain ⟨_, _, _, h4, _⟩ := hB
        obtain ⟨_, rfl⟩ := h4 rfl
        cases a with
        | none => simp [Builtin.append_, run_underlying Try.underlying26, sizeOf, typeInfo, hi, Builtin.lenOf, Builtin.firstCells]
        | some p => simp [Builtin.append_, run_underlying Try.underlying26, sizeOf, typeInfo, hi, Builtin.lenOf, Builtin.firstCells, storeCells]
      | some x =>
        cases a with
        | none => simp [Builtin.append_, run_underlying Try.underlying26, sizeOf, typeInfo, hi, Builtin.lenOf, Builtin.firstCells, loadCells, loadCellsFrom]
        | some p => simp [Builtin.append_, run_underlying Try.underlying26, sizeOf, typeInfo, hi, Builtin.lenOf, Builtin.firstCells, loadCells, loadCellsFrom, storeCells]
    · cases a with
      | none =>
        obtain ⟨_, _, _, h4, _⟩ := hI
        obtain ⟨h4, _⟩ := h4 rfl
        apply own
        rw [hv]
        rw [h4]
        obtain rfl : K = [] := List.eq_nil_of_length_eq_zero h4
        exact World.ownsRow_nil _ _ _ _
      | some p =>
        cases xa with
        | none =>
          obtain ⟨_, _, _, h4, _⟩ := hB
          exact absurd (h4 rfl).1 h0
        | some x =>
          rw [hv]
          have hl : (bs.map (Value.int .u8)).length = len * 1 := by rw [List.length_map, hB.1, Nat.mul_one]
          have hlo : (K.map (Value.int .u8)).length = K.length * 1 := by rw [List.length_map, Nat.mul_one]
          obtain ⟨v', w', hr', h2, h3⟩ := run_append_arg_grows (P := Try.prog) w 26 ty 5 i0 (.int .u8 0) 1 1 Try.underlying26 hi hz0 hz1 hz2 rfl (by decide) p K.length K.length _ hlo hI.news x len cap _ hl hB.news (by omega) (by unfold maxLen; omega) (by omega)
          have h2' : OwnB w' w.heap.size v' (K ++ bs).length (K ++ bs) := by
            rw [List.length_append, hlen]; exact OwnB.join h2 rfl
          refine ⟨v', w', hr', h2'.keptV hrr, (kept_grown h3).wide (fun i _ e => by cases e), .inr ?_⟩
          have hne : 0 < (K ++ bs).length := by rw [List.length_append]; omega
          have hh := World.ownsRow.form h2' hne
          obtain ⟨g, cp, rfl, hg, hgl⟩ := hh
          have hb := h2'.2
          have hsz : w'.heap.size = w.heap.size + 1 := by
            have hr2 := run_append_grow (P := Try.prog) w 26 ty 5 i0 (.int .u8 0) Try.underlying26 hi hz0 p K.length K.length _ (by rw [hz1]; exact hlo) hI.news x len cap _ (by rw [hz1]; exact hl) hB.news (by omega) (by omega) (growslice_fits (by omega) (by rw [hz2]; omega))
            rw [hr'] at hr2
            simp only [Result.ok.injEq] at hr2
            rw [hr2.2]; simp
          simp only [Value.ownBlock, Option.some.injEq]
          omega
  · exact own ho

theorem wpList_append_kept {ops : Array Oper} {rest : List Oper} {o : Oper} {a : Act} {w : World} {Q : Exit → Act → World → Prop} (hgd : o.guard = none) (s x : Operand)
    (ho : o.op = .call { callee := .builtin .append, args := #[s, x], argTypes := #[26, 26] })
    {kv : Value} {K : List Int} (hs : a.eval s = kv) (h : KeptV w kv K) {xa : Option Addr} {len cap : Nat} {bs : List Int} (hx : a.eval x = .slice xa len cap) (hB : IsB w xa len cap bs) (hbd : K.length + len ≤ 140737488355328)
    (hk : ∀ v' w', KeptV w' v' (K ++ bs) → Kept (fun k => kv.ownBlock = some k) w w' → (v'.ownBlock = kv.ownBlock ∨ v'.ownBlock = some w.heap.size) → wpList Try.prog ops Q rest (a.put o.dst v') w') : wpList Try.prog ops Q (o :: rest) a w := by
  refine wpList_plain hgd fun K' hK => ?_
  obtain ⟨v', w', hr, h2, h3, h4⟩ := kept_append h hB hbd o.type
  unfold Oper.wp
  simp [execOp, ho, resolve, invoke, builtin, hs, hx, hr, Result.andThen]
  exact hK _ _ (hk v' w' h2 h3 h4)

/-- A splitter: its version, what it keeps, its error. -/
structure Spl (w : World) (s : Nat) (ver : Int) (kv : Value) (K : List Int) (flt : Int) : Prop where
  box : w.heap[s]? = some (.cells #[.int .u8 ver, kv, .int .i64 flt] 57 (0, 0))
  kept : KeptV w kv K
  apart : ∀ k, kv.ownBlock = some k → k ≠ s

theorem Spl.lt {w : World} {s : Nat} {ver : Int} {kv : Value} {K : List Int} {flt : Int} (h : Spl w s ver kv K flt) : s < w.heap.size := (Array.getElem?_eq_some_iff.1 h.box).1

theorem Spl.cells {w : World} {s : Nat} {ver : Int} {kv : Value} {K : List Int} {flt : Int} (h : Spl w s ver kv K flt) :
    w.cell? ⟨s, 0, none⟩ = some (.int .u8 ver) ∧ w.cell? ⟨s, 1, none⟩ = some kv ∧ w.cell? ⟨s, 2, none⟩ = some (.int .i64 flt) ∧ w.frozen? ⟨s, 1, none⟩ = false ∧ w.frozen? ⟨s, 2, none⟩ = false := by
  refine ⟨?_, ?_, ?_, ?_, ?_⟩ <;> simp [World.cell?, World.frozen?, h.box]

theorem Spl.keep {S : Nat → Prop} {w W : World} {s : Nat} {ver : Int} {kv : Value} {K : List Int} {flt : Int} (h : Spl w s ver kv K flt) (hK : Kept S w W) (hs : ¬ S s) (hn : ∀ k, kv.ownBlock = some k → ¬ S k) : Spl W s ver kv K flt :=
  ⟨by rw [hK.block s h.lt hs]; exact h.box, h.kept.kept hK hn, h.apart⟩

theorem Spl.old {w W : World} {s : Nat} {ver : Int} {kv : Value} {K : List Int} {flt : Int} (h : Spl w s ver kv K flt) (hB : Below w.heap.size w W) : Spl W s ver kv K flt :=
  h.keep (kept_of (S := fun _ => False) hB) (fun e => e) (fun _ _ e => e)

set_option maxHeartbeats 400000 in
theorem new_any (ver : Int) (w : World) :
    Calls Try.prog 11 #[.int .u8 ver] w fun e w' => e = .returned (.pointer (some ⟨w.heap.size, 0, none⟩)) ∧ Spl w' w.heap.size ver (.slice none 0 0) [] 0 ∧ Below w.heap.size w w' ∧ w'.heap.size = w.heap.size + 1 := by
  go_enter Try.func11, Try.ntmps11
  go_wp2
  go_ret
  refine ⟨rfl, ⟨heap_alloc_new w _, keptV_nil _, fun k e => by simp [Value.ownBlock] at e⟩, below_one _ _, by simp⟩

set_option maxHeartbeats 400000 in
theorem left_any {w : World} {s : Nat} {ver : Int} {kv : Value} {K : List Int} {flt : Int} (h : Spl w s ver kv K flt) :
    Calls Try.prog 14 #[.pointer (some ⟨s, 0, none⟩)] w fun e w' => e = .returned (.int .i64 K.length) ∧ w' = w := by
  obtain ⟨c0, c1, c2, f1, f2⟩ := h.cells
  obtain ⟨hr, a, cap, rfl, hI, hp, ho⟩ := h.kept
  clear h hI hr hp ho
  go_enter Try.func14, Try.ntmps14
  go_wp2
  go_ret
  exact ⟨rfl, rfl⟩

set_option maxHeartbeats 400000 in
theorem left_nil (w : World) : Calls Try.prog 14 #[.pointer none] w fun e w' => e = .returned (.int .i64 0) ∧ w' = w := by
  go_enter Try.func14, Try.ntmps14
  go_wp2
  go_ret
  exact ⟨rfl, rfl⟩

theorem set2_block {w : World} {s : Nat} {a b c u v : Value} {t : TypeId} (h : w.heap[s]? = some (.cells #[a, b, c] t (0, 0))) : ((w.setCell ⟨s, 2, none⟩ u).setCell ⟨s, 1, none⟩ v).heap[s]? = some (.cells #[a, v, u] t (0, 0)) := by
  simp [World.setCell, Array.getElem?_modify, h]

theorem set1_block {w : World} {s : Nat} {a b c v : Value} {t : TypeId} (h : w.heap[s]? = some (.cells #[a, b, c] t (0, 0))) : (w.setCell ⟨s, 1, none⟩ v).heap[s]? = some (.cells #[a, v, c] t (0, 0)) := by
  simp [World.setCell, Array.getElem?_modify, h]

set_option maxHeartbeats 400000 in
theorem fail_any {w : World} {s : Nat} {ver : Int} {kv : Value} {K : List Int} {flt : Int} (h : Spl w s ver kv K flt) (e : Int) :
    Calls Try.prog 21 #[.pointer (some ⟨s, 0, none⟩), .int .i64 e] w fun r w' => r = .returned (.tuple #[]) ∧ Spl w' s ver (.slice none 0 0) [] e ∧ Kept (fun k => k = s) w w' := by
  obtain ⟨c0, c1, c2, f1, f2⟩ := h.cells
  have hlt := h.lt
  have H : Hid _ := h
  clear h
  go_enter Try.func21, Try.ntmps21
  go_wp2
  go_end0
  refine ⟨rfl, ⟨?_, ?_, ?_⟩, ?_⟩
  · exact set2_block H.out.box
  · exact keptV_nil _
  · intro k e; simp [Value.ownBlock] at e
  · exact ((Kept.refl (fun k => k = s) _).setCell (p := ⟨s, 2, none⟩) (fun _ => rfl) _).setCell (p := ⟨s, 1, none⟩) (fun _ => rfl) _

set_option maxHeartbeats 400000 in
theorem sizeOf_any (v f s o l : Int) (w : World) (h0 : 0 ≤ l) (h1 : l ≤ 4294967295) :
    Calls Try.prog 22 #[.agg #[.int .u8 v, .int .u8 f, .int .i16 s, .int .u8 o, .int .u32 l]] w fun e w' => e = .returned (.int .i64 (9 + l)) ∧ Below w.heap.size w w' := by
  go_enter Try.func22, Try.ntmps22
  go_wp2
  go_ret
  exact ⟨rfl, below_one _ _⟩

set_option maxHeartbeats 400000 in
theorem clone_any {w : World} {x : Addr} {len cap : Nat} {zs : List Int} (h : IsB w (some x) len cap zs) (hl : len ≤ 140737488355328) :
    Calls Try.prog 29 #[.slice (some x) len cap] w fun e w' => ∃ v, e = .returned v ∧ OwnB w' w.heap.size v len zs ∧ Below w.heap.size w w' := by
  have H : Hid (IsB (w.alloc (.cells #[] 5)) (some x) len cap zs) := h.old (below_one _ _)
  have HO : Hid (OwnB (w.alloc (.cells #[] 5)) w.heap.size (.slice (some ⟨w.heap.size, 0, none⟩) 0 0) 0 []) := ⟨rfl, .inr ⟨w.heap.size, 0, #[], rfl, Nat.le_refl _, heap_alloc_new w _, Nat.le_refl _, by unfold maxLen; omega, rfl, rfl⟩⟩
  clear h
  have q : ∀ (w : World) (a : Option Addr) (n c n' c' : Nat), (binOp .eql 26 (.slice a n c) (.slice none n' c')).run Try.prog w = .ok (.bool a.isNone) w := fun w a n c n' c' => Lib.run_eql_slice_nil w _ _ a n c n' c' Try.underlying26
  go_enter Try.func29, Try.ntmps29
  go_wp2_with (at_builtin; refine wpList_append_bytes rfl (.tmp 5) (.tmp 6) rfl rfl HO.out rfl H.out (by omega) (by simp) ?_)
  rintro u w1 ho hB
  have HO1 : Hid _ := ho
  clear ho
  go_wp2_with fail
  go_ret
  refine ⟨_, rfl, ?_, (below_one _ _).trans hB⟩
  exact HO1.out
end Go.Proofs.Ytabadlgjocgkjaa
