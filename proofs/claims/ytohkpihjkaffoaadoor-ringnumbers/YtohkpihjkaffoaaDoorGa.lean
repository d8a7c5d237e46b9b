/-
  The closure of Walk: hosts that were not seen are gathered, in order; who was seen is a map.
-/
import Derived.Test.YtohkpihjkaffoaaDoorMath
import Derived.Maps.OwnSet
import Derived.Maps.AppendAt
namespace Go.Proofs.YtohkpihjkaffoaaDoor
open Go.RowKit Go.Maps Go.WideMaps
set_option maxRecDepth 100000
set_option linter.unusedVariables false
set_option linter.unusedSimpArgs false

theorem lawS : Keyed Tryd.prog 9 := string_keyed Tryd.underlying9
theorem zero64 (w : World) : (zeroValue 64).run Tryd.prog w = .ok (.agg #[]) w := by kernel_rfl

theorem block_lt {w : World} {b : Nat} {o : Obj} (h : w.heap[b]? = some o) : b < w.heap.size := (Array.getElem?_eq_some_iff.1 h).1
theorem one_cell {w : World} {b : Nat} {v : Value} {t : TypeId} (h : w.heap[b]? = some (.cells #[v] t (0, 0))) : w.cell? ⟨b, 0, none⟩ = some v ∧ w.frozen? ⟨b, 0, none⟩ = false := by
  constructor <;> simp [World.cell?, World.frozen?, h]

def keyL (h : ByteArray) : Lit := .string h.data.toList
def Sd (acc : List ByteArray) : DataW Unit := setOf (.agg []) (acc.map keyL)

theorem key_same (a b : ByteArray) : (keyL a).sameKey (keyL b) = eqH a b := by
  unfold keyL eqH
  rw [ByteArray.toList_eq, ByteArray.toList_eq]
  rfl

theorem has_Sd (acc : List ByteArray) (h : ByteArray) : Maps.has (Sd acc) (keyL h) = hasH acc h := by
  unfold Sd hasH
  rw [has_setOf _ _ _ (fun y hy => by obtain ⟨_, _, rfl⟩ := List.mem_map.1 hy; trivial), List.any_map]
  induction acc with
  | nil => rfl
  | cons a r ih => rw [List.any_cons, List.any_cons, ih]; show ((keyL a).sameKey (keyL h) || _) = _; rw [key_same]
theorem Sd_new (acc : List ByteArray) (h : ByteArray) : Sd (acc ++ [h]) = (Sd acc).put (keyL h) (.agg []) := by
  unfold Sd
  rw [List.map_append, List.map_singleton, setOf_snoc]

theorem ownsMap_kept {w W : World} {S : Nat → Prop} {k : TypeId} {b n : Nat} {D : DataW Unit} (h : w.ownsMap Tryd.prog k unitElem b n D) (hK : Kept S w W) (hn : ¬ S b) : W.ownsMap Tryd.prog k unitElem b n D := by
  obtain ⟨es, clock, hb, F, hs, hD⟩ := h
  exact ⟨es, clock, (hK.block b (block_lt hb) hn).trans hb, F, hs, hD⟩

theorem one_set {w : World} {b : Nat} {v : Value} {t : TypeId} (h : w.heap[b]? = some (.cells #[v] t (0, 0))) (u : Value) : (w.setCell ⟨b, 0, none⟩ u).heap[b]? = some (.cells #[u] t (0, 0)) := by
  have hlt := block_lt h
  have h' : w.heap[b] = .cells #[v] t (0, 0) := by simpa [Array.getElem?_eq_getElem hlt] using h
  show (w.heap.modify b _)[b]? = _
  rw [Array.getElem?_eq_getElem (by simpa using hlt), Array.getElem_modify_self, h']
  rfl

/-- What the closure has captured: block B holds the hosts so far, B + 1 is the map, B + 2 holds it. -/
structure GS (B : Nat) (w : World) (v : Value) (acc : List ByteArray) : Prop where
  boxH : w.heap[B]? = some (.cells #[v] 39 (0, 0))
  boxS : w.heap[B + 2]? = some (.cells #[.map (some (B + 1))] 63 (0, 0))
  seen : w.ownsMap Tryd.prog 9 unitElem (B + 1) acc.length (Sd acc)
  own : Own 9 1 VS w (fun k => B + 3 ≤ k) v acc

theorem GS.lt {B : Nat} {w : World} {v : Value} {acc : List ByteArray} (h : GS B w v acc) : B + 2 < w.heap.size := block_lt h.boxS
theorem GS.later {B : Nat} {w W : World} {v : Value} {acc : List ByteArray} (h : GS B w v acc) (hB : Below w.heap.size w W) : GS B W v acc :=
  ⟨(hB.block _ (block_lt h.boxH)).trans h.boxH, (hB.block _ (block_lt h.boxS)).trans h.boxS, ownsMap_kept h.seen (kept_of (S := fun _ => False) hB) (fun e => e), h.own.old stays_s hB⟩

/-- Behind the store into the map: what the walk reads next. -/
theorem GS.stored {B : Nat} {wr w3 : World} {v : Value} {A : List ByteArray} {t : Int} {s : ByteArray} (h : GS B ((wr.alloc (.cells #[.int .i64 t, .string s] 46)).alloc (.cells #[] 64)) v A) (hB : B + 2 < wr.heap.size)
    (hg : World.grownBy ((wr.alloc (.cells #[.int .i64 t, .string s] 46)).alloc (.cells #[] 64)) w3 (some (B + 1))) :
    w3.cell? ⟨wr.heap.size, 1, none⟩ = some (.string s) ∧ w3.cell? ⟨B, 0, none⟩ = some v ∧ w3.frozen? ⟨B, 0, none⟩ = false := by
  have hsz2 : ((wr.alloc (.cells #[.int .i64 t, .string s] 46)).alloc (.cells #[] 64)).heap.size = wr.heap.size + 2 := by simp
  have hblk : ((wr.alloc (.cells #[.int .i64 t, .string s] 46)).alloc (.cells #[] 64)).heap[wr.heap.size]? = some (.cells #[.int .i64 t, .string s] 46 (0, 0)) := by
    rw [(below_one (wr.alloc (.cells #[.int .i64 t, .string s] 46)) (.cells #[] 64)).block _ (by simp)]
    exact heap_alloc_new wr _
  have hblk3 : w3.heap[wr.heap.size]? = some (.cells #[.int .i64 t, .string s] 46 (0, 0)) := (hg.block _ (by omega) (by intro e; simp only [Option.some.injEq] at e; omega)).trans hblk
  have b3 : w3.heap[B]? = some (.cells #[v] 39 (0, 0)) := (hg.block _ (by omega) (by intro e; simp at e)).trans h.boxH
  obtain ⟨f2, f3⟩ := one_cell b3
  exact ⟨by simp [World.cell?, hblk3], f2, f3⟩

/-- The store into the set; the walk stops behind it. -/
theorem wpList_seen {w : World} {ops : Array Oper} {rest : List Oper} {o : Oper} {a : Act} {Q : Exit → Act → World → Prop} (hg : o.guard = none) (m x v : Operand) (hop : o.op = Op.mapUpdate 63 m x v)
    {b n : Nat} {A : List ByteArray} {s : ByteArray} (hm : a.eval m = .map (some b)) (hown : w.ownsMap Tryd.prog 9 unitElem b n (Sd A)) (hn : n < maxLen) (hx : a.eval x = .string s) (hv : a.eval v = .agg #[]) (hkey : keyOf Tryd.prog 9 (.string s) = some (keyL s))
    (hK : Hid (∀ w', w'.ownsMap Tryd.prog 9 unitElem b (n + 1) (Sd (A ++ [s])) → w.grownBy w' (some b) → wpList Tryd.prog ops Q rest (a.put o.dst undef) w')) :
    wpList Tryd.prog ops Q (o :: rest) a w :=
  wpList_mapUpdate_own w hg m x v 63 hop 9 64 lawS Tryd.underlying63 (unitElem (H := Unit)) b n (Sd A) hm hown hn (.string s) (.agg #[]) (keyL s) hx hv hkey (.agg []) [] unitElem_mk (fun w' h1 h2 => hK.out w' (by rw [Sd_new]; exact h1) h2)

theorem take_hsts {ps : List Pl} {k : Nat} (hk : k < ps.length) : hsts (ps.take (k + 1)) = hsts (ps.take k) ++ [(ps.getD k default).2] := by
  unfold hsts
  rw [List.take_add_one, List.map_append, List.getD_eq_getElem?_getD, List.getElem?_eq_getElem hk]
  rfl

set_option maxHeartbeats 1000000 in
theorem gather_any {w : World} {B : Nat} {v0 : Value} {acc : List ByteArray} (hG : GS B w v0 acc) {a : Option Addr} {len cap : Nat} {ps : List Pl} (h : View 2 VP w a len cap ps) (hb : ∀ p, a = some p → p.block < B) (hs : ∀ p ∈ ps, p.2.size ≤ maxLen) (hn : acc.length + len ≤ 1000000) :
    Calls Tryd.prog 28 #[.slice a len cap, .pointer (some ⟨B + 2, 0, none⟩), .pointer (some ⟨B, 0, none⟩)] w fun e w' => e = .returned (.tuple #[]) ∧ (∃ v, Hid (GS B w' v (ddG acc (hsts ps)))) ∧ Below B w w' := by
  have HL : Hid (ps.length = len) := h.1
  have H : Hid (View 2 VP w a len cap ps) := h
  have HG : Hid (GS B w v0 acc) := hG
  have HB : Hid (∀ p, a = some p → p.block < B) := hb
  have HS : Hid (∀ p ∈ ps, p.2.size ≤ maxLen) := hs
  have hcap : len ≤ cap := h.2.1
  have hcm : cap ≤ 9223372036854775807 := h.2.2.1
  clear h hG hb hs
  go_enter Tryd.func28, Tryd.ntmps28
  go_wp2_with fail
  go_loopw [10] (fun i wr => ∃ (k : Nat), k ≤ len ∧ i = .int .i64 k ∧ (∃ v, Hid (GS B wr v (ddG acc (hsts (ps.take k))))) ∧ Below B w wr) (fun i _ => len - (intOf i).toNat)
  case atStart => exact ⟨0, by omega, rfl, ⟨_, HG⟩, Below.refl _ _⟩
  case round =>
    obtain ⟨k, hk, rfl, ⟨v, HW⟩, hBl⟩ := hrel
    by_cases hlt : k < len
    · obtain ⟨b, off, ha, hbs, c0, c1⟩ := H.out.pl hlt
      subst ha
      have hbB : b < B := HB.out _ rfl
      have d0 : wr.cell? ⟨b, off + k * 2, none⟩ = some (.int .i64 (ps.getD k default).1) := (hBl.cell (p := ⟨b, off + k * 2, none⟩) hbB).trans c0
      have d1 : wr.cell? ⟨b, off + k * 2 + 1, none⟩ = some (.string (ps.getD k default).2) := (hBl.cell (p := ⟨b, off + k * 2 + 1, none⟩) hbB).trans c1
      have hsz : (ps.getD k default).2.size ≤ maxLen := HS.out _ (getD_mem (by rw [HL.out]; exact hlt))
      obtain ⟨A, hA⟩ : ∃ A, A = ddG acc (hsts (ps.take k)) := ⟨_, rfl⟩
      rw [← hA] at HW
      have hNext : ddG acc (hsts (ps.take (k + 1))) = addH A (ps.getD k default).2 := by rw [take_hsts (by rw [HL.out]; exact hlt), ddG_snoc, ← hA]
      have hAl : A.length ≤ acc.length + k := by
        have := ddG_len (hsts (ps.take k)) acc
        rw [← hA] at this
        simp only [hsts, List.length_map, List.length_take] at this
        omega
      obtain ⟨⟨t, s⟩, hp⟩ : ∃ p, p = ps.getD k default := ⟨_, rfl⟩
      rw [← hp] at d0 d1 hsz hNext
      have HN : Hid (ddG acc (hsts (ps.take (k + 1))) = addH A s) := hNext
      have hkey : keyOf Tryd.prog 9 (.string s) = some (keyL s) := keyOf_string_mk Tryd.underlying9 hsz
      have hltW := HW.out.lt
      have e1 := (one_cell HW.out.boxH).1
      have e2 := (one_cell HW.out.boxS).1
      clear c0 c1 hNext hA hp hsz
      by_cases hm : hasH A s = true
      · have hh : Maps.has (Sd A) (keyL s) = true := by rw [has_Sd]; exact hm
        have HE : Hid (ddG acc (hsts (ps.take (k + 1))) = A) := by show _ = _; rw [HN.out]; exact if_pos hm
        go_wp2_with (first
          | (at_lookup; refine wpList_lookup_own_unit _ rfl _ _ 63 rfl 9 64 lawS Tryd.underlying63 (zero64 _) (B + 1) A.length _ rfl (HW.out.seen.alloc _) _ _ rfl hkey ?_; rw [hh])
          | go_in)
        have HG2 : Hid (GS B ((wr.alloc (.cells #[.int .i64 t, .string s] 46)).alloc (.cells #[] 64)) v (ddG acc (hsts (ps.take (k + 1))))) := by
          show GS _ _ _ _
          rw [HE.out]
          exact (HW.out.later (below_one _ _)).later (below_one _ _)
        have hB2 : Below B w ((wr.alloc (.cells #[.int .i64 t, .string s] 46)).alloc (.cells #[] 64)) := (hBl.alloc (by omega) _).alloc (by simp; omega) _
        clear HW HE HN
        go_roundw
        case rel => exact ⟨k + 1, by omega, by go_num, ⟨v, HG2⟩, hB2⟩
        case measure => simp [intOf]; omega
      · have hm' : hasH A s = false := by simpa using hm
        have hh : Maps.has (Sd A) (keyL s) = false := by rw [has_Sd]; exact hm'
        have HE : Hid (ddG acc (hsts (ps.take (k + 1))) = A ++ [s]) := by show _ = _; rw [HN.out]; exact if_neg hm
        have HW2 : Hid (GS B ((wr.alloc (.cells #[.int .i64 t, .string s] 46)).alloc (.cells #[] 64)) v A) := (HW.out.later (below_one _ _)).later (below_one _ _)
        go_wp2_with (first
          | (at_lookup; refine wpList_lookup_own_unit _ rfl _ _ 63 rfl 9 64 lawS Tryd.underlying63 (zero64 _) (B + 1) A.length _ rfl (HW.out.seen.alloc _) _ _ rfl hkey ?_; rw [hh])
          | (at_mapUpdate; refine wpList_seen rfl _ _ _ rfl rfl HW2.out.seen (by unfold maxLen; omega) rfl rfl hkey ?_)
          | go_in)
        intro w3 hown3 hgrow3
        obtain ⟨f1, f2, f3⟩ := HW2.out.stored hltW hgrow3
        obtain ⟨w2, hw2⟩ : ∃ w2, w2 = (wr.alloc (.cells #[.int .i64 t, .string s] 46)).alloc (.cells #[] 64) := ⟨_, rfl⟩
        rw [← hw2] at hgrow3 HW2
        have hK3 : Kept (fun k => k = B + 1) w2 w3 := (kept_grown hgrow3).wide (fun k _ e => (Option.some.inj e).symm)
        have hsz2 : w2.heap.size = wr.heap.size + 2 := by rw [hw2]; simp
        have b3 : w3.heap[B]? = some (.cells #[v] 39 (0, 0)) := (hK3.block _ (by omega) (by omega)).trans HW2.out.boxH
        have c3 : w3.heap[B + 2]? = some (.cells #[.map (some (B + 1))] 63 (0, 0)) := (hK3.block _ (by omega) (by omega)).trans HW2.out.boxS
        have hO3 : Own 9 1 VS w3 (fun k => B + 3 ≤ k) v A := HW2.out.own.kept stays_s hK3 (fun k _ hk e => by omega)
        have hs3 := hK3.size
        have HB3 : Hid (w3.heap[B]? = some (.cells #[v] 39 (0, 0))) := b3
        have HC3 : Hid (w3.heap[B + 2]? = some (.cells #[.map (some (B + 1))] 63 (0, 0))) := c3
        have HM3 : Hid (w3.ownsMap Tryd.prog 9 unitElem (B + 1) (A.length + 1) (Sd (A ++ [s]))) := hown3
        have HL3 : Hid (Below B w w3) := ((hBl.alloc (by omega) _).alloc (by simp; omega) _).trans (by rw [← hw2]; exact hK3.below (by omega) (fun k _ e => by omega))
        have HO3 : Hid (Own 9 1 VS (w3.alloc (.cells #[.string s] 9)) (fun k => B + 3 ≤ k) v A) := hO3.old stays_s (below_one w3 _)
        have HBN : Hid ((w3.alloc (.cells #[.string s] 9)).heap[w3.heap.size]? = some (.cells [Value.string s].toArray 9 (0, 0))) := heap_alloc_new w3 _
        have HM : Hid (A.length + 1 ≤ maxLen ∧ (A.length + 1) * 16 ≤ 140737488355328) := by
          show _ ∧ _
          unfold maxLen; omega
        have hB3s : B + 3 ≤ w3.heap.size := by omega
        clear hown3 hgrow3 hK3 b3 c3 hO3 hw2 HW2 e1 e2 d0 d1 hm hm' hh HN HW hsz2 hs3 hBl
        go_wp2_with (first
          | (at_builtin; refine wpList_append_item rfl (.tmp 27) (.tmp 30) 39 rfl stays_s elem_s rfl HO3.out rfl HBN.out rfl ?c1 s rfl ?c2 ?c3 HM.out.1 HM.out.2 ?_)
          | go_in)
        case c1 => intro u hu; simp at hu; subst hu; rfl
        case c2 => intro j k hj hk; obtain rfl : j = 0 := by omega
                   simp [Value.ownBlock] at hk
        case c3 => simp; omega
        intro v4 w4 ho4 hK4 hat4
        have b4 : w4.heap[B]? = some (.cells #[v] 39 (0, 0)) := (hK4.block B (by simp; omega) (fun e => by have := (HO3.out.lt B e).1; omega)).trans ((below_one w3 _).block B (by omega) |>.trans HB3.out)
        have c4 : w4.heap[B + 2]? = some (.cells #[.map (some (B + 1))] 63 (0, 0)) := (hK4.block (B + 2) (by simp; omega) (fun e => by have := (HO3.out.lt _ e).1; omega)).trans ((below_one w3 _).block _ (by omega) |>.trans HC3.out)
        have m4 : w4.ownsMap Tryd.prog 9 unitElem (B + 1) (A.length + 1) (Sd (A ++ [s])) := ownsMap_kept (HM3.out.alloc _) hK4 (fun e => by have := (HO3.out.lt _ e).1; omega)
        obtain ⟨g1, g2⟩ := one_cell b4
        have hK5 : Kept (fun k => k = B) w4 (w4.setCell ⟨B, 0, none⟩ v4) := (Kept.refl (fun k => k = B) w4).setCell (p := ⟨B, 0, none⟩) (fun _ => rfl) v4
        have hG5 : GS B (w4.setCell ⟨B, 0, none⟩ v4) v4 (A ++ [s]) := by
          refine ⟨?_, ?_, ?_, ?_⟩
          · have := one_set b4 v4; exact this
          · exact (hK5.block (B + 2) (block_lt c4) (by omega)).trans c4
          · rw [List.length_append]; exact ownsMap_kept m4 hK5 (by omega)
          · exact ho4.kept stays_s hK5 (fun k _ hk e => by omega)
        have hL5 : Below B w (w4.setCell ⟨B, 0, none⟩ v4) := (HL3.out.alloc (by omega) _).trans ((hK4.below (by simp; omega) (fun k _ e => by have := (HO3.out.lt _ e).1; omega)).trans (hK5.below (by have := block_lt c4; omega) (fun k _ e => by omega)))
        have HG5 : Hid (GS B (w4.setCell ⟨B, 0, none⟩ v4) v4 (ddG acc (hsts (ps.take (k + 1))))) := by
          show GS _ _ _ _
          rw [HE.out]; exact hG5
        have HL5 : Hid (Below B w (w4.setCell ⟨B, 0, none⟩ v4)) := hL5
        obtain ⟨x4, n4, c4', rfl⟩ := ho4.shape
        clear ho4 hK4 hat4 m4 b4 c4 hK5 hG5 hL5 HL3 HM3 HB3 HC3 HO3 HBN
        go_wp2_with fail
        go_roundw
        case rel => exact ⟨k + 1, by omega, by go_num, ⟨_, HG5⟩, HL5.out⟩
        case measure => simp [intOf]; omega
    · have HE : Hid (∃ v, Hid (GS B wr v (ddG acc (hsts ps)))) := by
        rw [List.take_of_length_le (by rw [HL.out]; omega)] at HW
        exact ⟨_, HW⟩
      clear HW
      go_wp2_with fail
      go_end0
      exact ⟨rfl, HE.out, hBl⟩
end Go.Proofs.YtohkpihjkaffoaaDoor
