/-
  RequestBatches: its mathematics, and its walk: it answers true, and turns nothing that was there.
-/
import Derived.Test.YtcecdklgiocbaaaAwake8
import Derived.Test.YtcecdklgiocbaaaSlight8
import Derived.Lib.ConvBytes
import Derived.Lib.EndianMore
import Derived.Test.YtcecdklgiocbaaaOpen8
namespace Go.Proofs.Ytcecdklgiocbaaa
section maths
open Go.RowKit Go.Deep
set_option maxRecDepth 100000
set_option linter.unusedVariables false
set_option linter.unusedSimpArgs false

def mkS (ts : List ByteArray) (ps : List Bool) (vs : List Vl) (j : Nat) : St := if ps.getD j default = true then (true, ByteArray.empty, ts.getD j default, []) else (false, ts.getD j default, ByteArray.empty, vs)
def mkL (ts : List ByteArray) (ps : List Bool) (vs : List Vl) (k : Nat) : List St := (List.range k).map (mkS ts ps vs)
theorem mkL_succ (ts : List ByteArray) (ps : List Bool) (vs : List Vl) (k : Nat) : mkL ts ps vs (k + 1) = mkL ts ps vs k ++ [mkS ts ps vs k] := by simp [mkL, List.range_succ]
theorem mkL_len (ts : List ByteArray) (ps : List Bool) (vs : List Vl) (k : Nat) : (mkL ts ps vs k).length = k := by simp [mkL]
theorem mkL_get (ts : List ByteArray) (ps : List Bool) (vs : List Vl) {k j : Nat} (h : j < k) : ((mkL ts ps vs k).map nS).getD j default = nS (mkS ts ps vs j) := by
  rw [List.getD_eq_getElem?_getD]
  simp [mkL, h]
theorem mkS_yes {ts : List ByteArray} {ps : List Bool} {vs : List Vl} {j : Nat} (h : ps.getD j default = true) : mkS ts ps vs j = (true, ByteArray.empty, ts.getD j default, []) := by unfold mkS; rw [if_pos h]
theorem mkS_no {ts : List ByteArray} {ps : List Bool} {vs : List Vl} {j : Nat} (h : ps.getD j default = false) : mkS ts ps vs j = (false, ts.getD j default, ByteArray.empty, vs) := by unfold mkS; rw [if_neg (by rw [h]; decide)]

/-- The batch. -/
def mkB (κ : Int) (L : List St) : Rq := (13, [], ByteArray.empty, ByteArray.empty, (2, [], [], false, false, 0, false, (0, ByteArray.empty), false, 0, false, 0), [], (0, ByteArray.empty), κ, L)

theorem nQ_mkB (κ : Int) (L : List St) : nQ (mkB κ L) = (13, [], ByteArray.empty, ByteArray.empty, nR (mkB κ L).run, [], (0, ByteArray.empty), κ, L.map nS) := rfl
theorem got_mkB {opr : Int} {os : List (ByteArray × ByteArray)} {tx id : ByteArray} {co : Int} {r : List Vl × List ByteArray × Bool × Bool × Int × Bool × Vl × Bool × Int × Bool × Int} {es : List ByteArray} {tk : Vl} {kd : Int} {ss : List St} {κ : Int} {L : List St} (h : ((opr, os, tx, id, (co, r), es, tk, kd, ss) : Rq) = nQ (mkB κ L)) : co = 2 ∧ kd = κ ∧ ss = L.map nS := by
  rw [nQ_mkB] at h
  exact ⟨congrArg (fun q : Rq => q.run.cons) h, congrArg (fun q : Rq => q.kind) h, congrArg (fun q : Rq => q.all) h⟩

theorem goB_fine {α : Type} (f : α → BE) : ∀ (xs : List α) (acc : List Int), (∀ x ∈ xs, (f x).2 = 0) → (goB f xs acc).2 = 0 := by
  intro xs
  induction xs with
  | nil => intro acc _; rfl
  | cons x r ih =>
    intro acc h
    rw [goB, if_pos (h x List.mem_cons_self)]
    exact ih _ (fun y hy => h y (List.mem_cons_of_mem _ hy))
theorem listB_fine {α : Type} {f : α → BE} {xs : List α} (hl : xs.length ≤ 65535) (h : ∀ x ∈ xs, (f x).2 = 0) : (listB f xs).2 = 0 := by
  unfold listB
  rw [if_pos hl]
  exact goB_fine f xs _ h
theorem seqB_zero {A B : BE} (h : A.2 = 0) (k : B.2 = 0) : (seqB A B).2 = 0 := by rw [seqB_ok h k]
theorem valueB_fine {x : Vl} (h : 0 ≤ x.1 ∧ x.1 ≤ 2) : (valueB x).2 = 0 := by
  unfold valueB
  by_cases h0 : x.1 = 0
  · rw [if_pos h0]
  rw [if_neg h0]
  by_cases h1 : x.1 = 1
  · rw [if_pos h1]
  rw [if_neg h1, if_pos (by omega)]

theorem mem_getD {α : Type} [Inhabited α] {xs : List α} {x : α} (h : x ∈ xs) : ∃ j, j < xs.length ∧ x = xs.getD j default := by
  obtain ⟨j, hj, rfl⟩ := List.getElem_of_mem h
  exact ⟨j, hj, by rw [List.getD_eq_getElem?_getD, List.getElem?_eq_getElem hj, Option.getD_some]⟩

section
variable {ts : List ByteArray} {ps : List Bool} {vs : List Vl} {k : Nat} {κ : Int}

theorem mk_fine (hk : k ≤ 30) (hv : vs.length ≤ 20) (hκ : 0 ≤ κ ∧ κ ≤ 2) (ht : ∀ j, j < k → (ts.getD j default).size ≤ 500) (hq : ∀ j, j < vs.length → 0 ≤ (vs.getD j default).1 ∧ (vs.getD j default).1 ≤ 2) : (putB (mkB κ (mkL ts ps vs k))).2 = 0 := by
  have hvals : (listB valueB vs).2 = 0 := listB_fine (by omega) (fun x hx => by
    obtain ⟨j, hj, rfl⟩ := mem_getD hx
    exact valueB_fine (hq j hj))
  have hall : (listB stB (mkL ts ps vs k)).2 = 0 := listB_fine (by rw [mkL_len]; omega) (fun s hs => by
    obtain ⟨j, hj, rfl⟩ := List.mem_map.1 hs
    have hjk := List.mem_range.1 hj
    have htj := ht j hjk
    cases hp : ps.getD j default with
    | true =>
      rw [mkS_yes hp]
      have e : (textB (ts.getD j default)).2 = 0 := by
        unfold textB
        rw [if_pos (by omega)]
      show (seqB (seqB ([1], 0) (textB (ts.getD j default))) (listB valueB [])).2 = 0
      exact seqB_zero (seqB_zero rfl e) rfl
    | false =>
      rw [mkS_no hp]
      show (seqB (seqB ([0], 0) (longB (ts.getD j default))) (listB valueB vs)).2 = 0
      exact seqB_zero (seqB_zero rfl rfl) hvals)
  have hk0 : (kindB κ).2 = 0 := by unfold kindB; rw [if_pos hκ.2]
  have hr : (runB true (2, [], [], false, false, 0, false, (0, ByteArray.empty), false, 0, false, 0)).2 = 0 := by decide +kernel
  exact seqB_zero hk0 (seqB_zero hall hr)

theorem mk_fit (hk : k ≤ 30) (hv : vs.length ≤ 20) (ht : ∀ j, j < k → (ts.getD j default).size ≤ 500) (hz : ∀ y ∈ vs, y.2.size ≤ 1048576) : FitQ (mkB κ (mkL ts ps vs k)) ∧ costA (mkL ts ps vs k) ≤ 900000000 := by
  have hcv := costV_le vs hz
  have hcv2 : vs.length * (1048576 + 4) ≤ 20 * 1048580 := Nat.mul_le_mul hv (by omega)
  have e0 : ByteArray.empty.size = 0 := rfl
  have hs : ∀ s ∈ mkL ts ps vs k, costS s ≤ 30000000 ∧ ∀ y ∈ s.vals, y.2.size ≤ 140737488351232 := fun s hs => by
    obtain ⟨j, hj, rfl⟩ := List.mem_map.1 hs
    have htj := ht j (List.mem_range.1 hj)
    cases hp : ps.getD j default with
    | true =>
      rw [mkS_yes hp]
      exact ⟨by show ByteArray.empty.size + (ts.getD j default).size + 16 + 0 ≤ _; omega, fun y hy => (by cases hy)⟩
    | false =>
      rw [mkS_no hp]
      exact ⟨by show (ts.getD j default).size + ByteArray.empty.size + 16 + costV vs ≤ _; omega, fun y hy => by have := hz y hy; omega⟩
  have ha := costA_le _ (fun s h => (hs s h).1)
  rw [mkL_len] at ha
  have ha2 : k * 30000000 ≤ 30 * 30000000 := Nat.mul_le_mul_right _ hk
  refine ⟨⟨fun y hy => (by cases hy), ⟨fun y hy => (by cases hy), fun y hy => (by cases hy), Nat.zero_le _⟩, fun y hy => (by cases hy), Nat.zero_le _, fun s h => (hs s h).2, ?_⟩, by omega⟩
  show 16 + ByteArray.empty.size + ByteArray.empty.size + (32 + 0 + 0 + ByteArray.empty.size) + costA (mkL ts ps vs k) ≤ _
  omega

theorem mk_finq (hκ : 0 ≤ κ) (ht : ∀ j, j < k → (ts.getD j default).size ≤ 500) (hz : ∀ y ∈ vs, y.2.size ≤ 1048576) : FineQ (mkB κ (mkL ts ps vs k)) := by
  have e0 : ByteArray.empty.size = 0 := rfl
  refine ⟨by show ByteArray.empty.size < _; omega, ⟨show (0 : Int) ≤ 2 by decide, fun x hx => (by cases hx), ⟨show (-2147483648 : Int) ≤ 0 by decide, show (0 : Int) ≤ 2147483647 by decide⟩, by show ByteArray.empty.size < _; omega, show (0 : Int) ≤ 0 by decide, ⟨show (-9223372036854775808 : Int) ≤ 0 by decide, show (0 : Int) ≤ 9223372036854775807 by decide⟩⟩, by show ByteArray.empty.size < _; omega, hκ, fun s hs => ?_⟩
  obtain ⟨j, hj, rfl⟩ := List.mem_map.1 (show s ∈ mkL ts ps vs k from hs)
  have htj := ht j (List.mem_range.1 hj)
  cases hp : ps.getD j default with
  | true =>
    rw [mkS_yes hp]
    exact ⟨by show ByteArray.empty.size < _; omega, fun x hx => (by cases hx)⟩
  | false =>
    rw [mkS_no hp]
    exact ⟨by show (ts.getD j default).size < _; omega, fun x hx => by have := hz x hx; omega⟩
end

theorem nV_kind (x : Vl) : (nV x).1 = x.1 := by
  unfold nV
  split <;> rfl
theorem nV_set {x : Vl} (h : x.1 = 2) : nV x = x := by unfold nV; rw [if_pos h]
theorem map_getD {l : List Vl} {j : Nat} (h : j < l.length) : (l.map nV).getD j default = nV (l.getD j default) := by
  rw [List.getD_eq_getElem?_getD, List.getD_eq_getElem?_getD]
  simp [h]

/-- Bools in memory. -/
def VBo (_ : World) (b : Bool) (c : Nat → Value) : Prop := c 0 = .bool b
theorem View.bool_at {w0 w : World} {a : Option Addr} {len cap : Nat} {bs : List Bool} (h : View 1 VBo w0 a len cap bs) (hB : Below w0.heap.size w0 w) {k : Nat} (hk : k < len) :
    ∃ b off, a = some ⟨b, off, none⟩ ∧ w.cell? ⟨b, off + k, none⟩ = some (.bool (bs.getD k default)) := by
  obtain ⟨h1, h2, h3, h4, h5⟩ := h
  obtain ⟨b, off, ha, hb, hc⟩ := h5 (by omega)
  obtain ⟨c, hcell, hv⟩ := hc k hk
  have g0 := hcell 0 (by omega)
  rw [hv] at g0
  exact ⟨b, off, ha, (hB.cell (p := ⟨b, off + k, none⟩) hb).trans (by simpa using g0)⟩
theorem View.str_at {w0 w : World} {a : Option Addr} {len cap : Nat} {bs : List ByteArray} (h : View 1 VS w0 a len cap bs) (hB : Below w0.heap.size w0 w) {k : Nat} (hk : k < len) :
    ∃ b off, a = some ⟨b, off, none⟩ ∧ w.cell? ⟨b, off + k, none⟩ = some (.string (bs.getD k default)) := by
  obtain ⟨h1, h2, h3, h4, h5⟩ := h
  obtain ⟨b, off, ha, hb, hc⟩ := h5 (by omega)
  obtain ⟨c, hcell, hv⟩ := hc k hk
  have g0 := hcell 0 (by omega)
  rw [hv] at g0
  exact ⟨b, off, ha, (hB.cell (p := ⟨b, off + k, none⟩) hb).trans (by simpa using g0)⟩

/-- A statement whose values are none, or those of a slice that is told. -/
def GB (va : Option Addr) (vl vc : Nat) (vs : List Vl) : Vw St := fun F w s c => c 0 = .bool s.prep ∧ c 1 = .string s.text ∧ (∃ a l cp, c 2 = .slice a l cp ∧ IsBF F w a l cp (sNums s.id)) ∧ ((c 3 = .slice none 0 0 ∧ s.vals = []) ∨ (c 3 = .slice va vl vc ∧ s.vals = vs))
theorem stays_gb (va : Option Addr) (vl vc : Nat) (vs : List Vl) : StaysG 4 (GB va vl vc vs) := by
  intro F F' w w' x c c' h hc hb hs hF
  obtain ⟨h0, h1, ⟨a, l, cp, h2, hv⟩, h3⟩ := h
  refine ⟨(hc 0 (by omega)).trans h0, (hc 1 (by omega)).trans h1, ⟨a, l, cp, (hc 2 (by omega)).trans h2, hv.stay hb hs hF⟩, ?_⟩
  rw [hc 3 (by omega)]
  exact h3
def VB (va : Option Addr) (vl vc : Nat) (vs : List Vl) (w : World) (s : St) (c : Nat → Value) : Prop := c 0 = .bool s.prep ∧ c 1 = .string s.text ∧ (∃ a l cp, c 2 = .slice a l cp ∧ IsB w a l cp (sNums s.id)) ∧ ((c 3 = .slice none 0 0 ∧ s.vals = []) ∨ (c 3 = .slice va vl vc ∧ s.vals = vs))
theorem gb_b {va : Option Addr} {vl vc : Nat} {vs : List Vl} (F : Nat → Prop) (w : World) (x : St) (c : Nat → Value) (h : GB va vl vc vs F w x c) : VB va vl vc vs w x c := by
  obtain ⟨h0, h1, ⟨a, l, cp, h2, hv⟩, h3⟩ := h
  exact ⟨h0, h1, ⟨a, l, cp, h2, hv.1⟩, h3⟩
theorem view_gb {va : Option Addr} {vl vc : Nat} {vs : List Vl} {w : World} (hV : View 2 VV w va vl vc vs) {a : Option Addr} {len cap : Nat} {xs : List St} (h : View 4 (VB va vl vc vs) w a len cap xs) : View 4 VSt w a len cap xs := by
  obtain ⟨h1, h2, h3, h4, h5⟩ := h
  refine ⟨h1, h2, h3, h4, fun hp => ?_⟩
  obtain ⟨b, off, ha, hb, hc⟩ := h5 hp
  refine ⟨b, off, ha, hb, fun i hi => ?_⟩
  obtain ⟨c, hcell, k0, k1, k2, k3⟩ := hc i hi
  refine ⟨c, hcell, k0, k1, k2, ?_⟩
  rcases k3 with ⟨e1, e2⟩ | ⟨e1, e2⟩
  · exact ⟨none, 0, 0, e1, by rw [e2]; exact view_nil _ _ _⟩
  · exact ⟨va, vl, vc, e1, by rw [e2]; exact hV⟩

/-- '[]byte(s)'. -/
theorem conv_bytes (w : World) (s : ByteArray) (hs : s.size ≤ maxLen) : ∃ g cap w', (convert 9 23 (.string s)).run Try.prog w = .ok (.slice (some ⟨g, 0, none⟩) s.size cap) w' ∧ w.heap.size ≤ g ∧ g < w'.heap.size ∧ IsB w' (some ⟨g, 0, none⟩) s.size cap (sNums s) ∧ Below w.heap.size w w' := by
  have hge := grownCap_ge w s.size 0 5
  have hcap : grownCap w s.size 0 5 ≤ maxLen := grownCap_le_maxLen w s.size 0 5 hs
  refine ⟨w.heap.size, _, _, Lib.run_convert_string_bytes (P := Try.prog) w 9 23 5 s Try.underlying9 Try.underlying23 Try.underlying5, Nat.le_refl _, by rw [Lib.bytesWorld_size]; omega,
    ⟨sNums_length s, hge, hcap, (fun e => by cases e), fun hp => ⟨w.heap.size, 0, rfl, sNums_length s, hge, hcap, fun _ => by rw [Lib.bytesWorld_size]; omega, fun i hi => ?_, sNums_range s⟩⟩,
    ⟨rfl, rfl, rfl, by rw [Lib.bytesWorld_size]; omega, fun k hk => Lib.bytesWorld_at_old w 5 s k hk⟩⟩
  rw [Nat.zero_add, Lib.bytesWorld_cell w 5 s i hi]
  simp [sNums, List.getD_eq_getElem?_getD, hi]

theorem wpList_appendG_hid {α : Type} [Inhabited α] {e : TypeId} {size : Nat} {V : Vw α} {ops : Array Oper} {rest : List Oper} {o : Oper} {a : Act} {Q : Exit → Act → World → Prop} {w : World} (hgd : o.guard = none) (s y : Operand) (t : TypeId)
    (ho : o.op = .call { callee := .builtin .append, args := #[s, y], argTypes := #[t, t] })
    {bytes : Nat} (hV : StaysG size V) (hE : Elem t e size bytes) {F : Nat → Prop} {v : Value} {xs : List α} (hs : a.eval s = v) (h : OwnG e size V w F v xs)
    {B c : Nat} {news : List Value} {tt : TypeId} {fr : Nat × Nat} (hy : a.eval y = .slice (some ⟨B, 0, none⟩) 1 c) (hB : w.heap[B]? = some (.cells news.toArray tt fr)) (hn : news.length = size) (h1 : ∀ u ∈ news, u.oneCell' = true) (x : α) (hx : V (fun k => k < w.heap.size ∧ v.ownBlock ≠ some k ∧ F k) w x (fun j => news.getD j default))
    (hF : F w.heap.size) (h63 : xs.length + 1 ≤ maxLen) (hbd : (xs.length + 1) * bytes ≤ 140737488355328)
    (hk : Hid (∀ v' w', OwnG e size V w' F v' (xs ++ [x]) → Kept (fun k => v.ownBlock = some k) w w' → (v'.ownBlock = v.ownBlock ∨ v'.ownBlock = some w.heap.size) → wpList Try.prog ops Q rest (a.put o.dst v') w')) : wpList Try.prog ops Q (o :: rest) a w :=
  wpList_appendG hgd s y t ho hV hE hs h hy hB hn h1 x hx hF h63 hbd hk.out

theorem Try.isz60 : (Try.prog.info? 60).map (·.size) = some 4 := by kernel_rfl

end maths
section walk
open Go.RowKit
set_option maxRecDepth 100000
set_option linter.unusedVariables false
set_option linter.unusedSimpArgs false

theorem rem3 {kd : Int} (h : 0 ≤ kd ∧ kd ≤ 255) : kd.tmod 3 = kd % 3 := Int.tmod_eq_emod_of_nonneg h.1

set_option maxHeartbeats 400000 in
theorem batch_long (kd : Int) (ta : Option Addr) (tl tc : Nat) (pa : Option Addr) (pl pc : Nat) (va : Option Addr) (vl vc : Nat) (w : World) (h : ¬ (tl ≤ 30 ∧ pl ≤ 30 ∧ vl ≤ 20)) :
    Calls Try.prog 7 #[.int .u8 kd, .slice ta tl tc, .slice pa pl pc, .slice va vl vc] w fun e w' => e = .returned (.bool true) ∧ Below w.heap.size w w' := by
  by_cases h1 : tl ≤ 30
  · by_cases h2 : pl ≤ 30
    · have h3 : 20 < vl := by omega
      have u1 : ¬ 30 < tl := by omega
      have u2 : ¬ 30 < pl := by omega
      clear h
      go_enter Try.func7, Try.ntmps7
      go_wp2_with fail
      refine (awake_any _).mono ?_
      rintro e w1 ⟨rfl, HB1⟩
      go_wp2_with fail
      go_ret
      exact ⟨rfl, HB1.out⟩
    · have u1 : ¬ 30 < tl := by omega
      have u2 : 30 < pl := by omega
      clear h
      go_enter Try.func7, Try.ntmps7
      go_wp2_with fail
      refine (awake_any _).mono ?_
      rintro e w1 ⟨rfl, HB1⟩
      go_wp2_with fail
      go_ret
      exact ⟨rfl, HB1.out⟩
  · have u1 : 30 < tl := by omega
    clear h
    go_enter Try.func7, Try.ntmps7
    go_wp2_with fail
    refine (awake_any _).mono ?_
    rintro e w1 ⟨rfl, HB1⟩
    go_wp2_with fail
    go_ret
    exact ⟨rfl, HB1.out⟩

set_option maxHeartbeats 16000000 in
theorem batch_walk (kd : Int) (hkd : 0 ≤ kd ∧ kd ≤ 255) {w : World} {ta : Option Addr} {tl tc : Nat} {ts : List ByteArray} (hT : View 1 VS w ta tl tc ts) (hts : ∀ s ∈ ts, s.size ≤ 1048576) {pa : Option Addr} {pl pc : Nat} {ps : List Bool} (hP : View 1 VBo w pa pl pc ps) {va : Option Addr} {vl vc : Nat} {vs : List Vl} (hV : View 2 VV w va vl vc vs) (hvs : ∀ y ∈ vs, y.2.size ≤ 1048576) (ht1 : tl ≤ 30) (hp1 : pl ≤ 30) (hv1 : vl ≤ 20) :
    Calls Try.prog 7 #[.int .u8 kd, .slice ta tl tc, .slice pa pl pc, .slice va vl vc] w fun e w' => e = .returned (.bool true) ∧ Below w.heap.size w w' := by
  have HT : Hid (View 1 VS w ta tl tc ts) := hT
  have HP : Hid (View 1 VBo w pa pl pc ps) := hP
  have HV : Hid (View 2 VV w va vl vc vs) := hV
  have HVL : Hid (vs.length = vl) := hV.1
  have HVS : Hid (∀ y ∈ vs, y.2.size ≤ 1048576) := hvs
  have HTZ : Hid (∀ s ∈ ts, s.size ≤ 1048576) := hts
  have HTL : Hid (ts.length = tl) := hT.1
  have HKD : Hid (0 ≤ kd ∧ kd ≤ 255) := hkd
  have u1 : ¬ 30 < tl := by omega
  have u2 : ¬ 30 < pl := by omega
  have u3 : ¬ 20 < vl := by omega
  have hr3 := rem3 hkd
  obtain ⟨κ, hκ⟩ : ∃ κ, κ = kd % 3 := ⟨_, rfl⟩
  rw [← hκ] at hr3
  have HK : Hid (0 ≤ κ ∧ κ ≤ 2) := ⟨by omega, by omega⟩
  have hw3 : IntKind.u8.wrap κ = κ := wrap_u8 κ (by omega) (by omega)
  clear hκ
  clear hT hP hV hvs hts
  go_enter Try.func7, Try.ntmps7
  go_wp2_with fail
  refine (awake_any _).mono ?_
  rintro e w1 ⟨rfl, HB1⟩
  go_wp2_with (refine wpList_store_hid (old := #[.int .u8 0, .slice none 0 0, .string ⟨#[]⟩, .slice none 0 0, .int .u16 0, .slice none 0 0, .slice none 0 0, .bool false, .bool false, .int .i32 0, .bool false, .int .i64 0, .slice none 0 0, .bool false, .int .u16 0, .bool false, .int .i64 0, .slice none 0 0, .int .i64 0, .slice none 0 0, .int .u8 0, .slice none 0 0]) (T := 33) rfl 33 (.tmp 10) (.tmp 40) rfl rfl rfl Try.isz33 (by simp [Value.oneCell']) (heap_alloc_new _ _) rfl ?_)
  intro w2 hq2 hK2 hs2
  have HB12 : Hid (Below w1.heap.size w1 w2) := ((kept_of (below_one w1 _)).trans hK2 (fun _ _ e => e)).below (S := fun k => k = w1.heap.size) (Nat.le_refl _) (fun k hk e => by omega)
  have HB2 : Hid (Below w.heap.size w w2) := HB1.out.trans (HB12.out.mono HB1.out.size)
  obtain ⟨q, hqe⟩ : ∃ q, q = w1.heap.size := ⟨_, rfl⟩
  rw [← hqe] at hq2 ⊢
  have HQ2 : Hid (w2.heap[q]? = some (.cells #[.int .u8 13, .slice none 0 0, .string ⟨#[]⟩, .slice none 0 0, .int .u16 2, .slice none 0 0, .slice none 0 0, .bool false, .bool false, .int .i32 0, .bool false, .int .i64 0, .slice none 0 0, .bool false, .int .u16 0, .bool false, .int .i64 0, .slice none 0 0, .int .i64 0, .slice none 0 0, .int .u8 κ, .slice none 0 0] 33 (0, 0))) := hq2
  have hqw : w.heap.size ≤ q := by rw [hqe]; exact HB1.out.size
  clear hq2 hK2 hs2 HB12 HB1 hqe
  go_wp2_with fail
  go_loopw [11] (fun i wr => ∃ k : Nat, k ≤ vl ∧ i = .int .i64 k ∧ Hid (∀ j, j < k → 0 ≤ (vs.getD j default).1 ∧ (vs.getD j default).1 ≤ 2) ∧ wr = w2) (fun i _ => vl - (intOf i).toNat)
  case atStart => exact ⟨0, by omega, rfl, fun j hj => by omega, rfl⟩
  case round =>
    obtain ⟨k, hk, rfl, HKS, rfl⟩ := hrel
    by_cases hlt : k < vl
    · obtain ⟨b, off, a1, l1, c1, haa, hc0, hc1, hI⟩ := HV.out.val_at HB2.out hlt
      obtain ⟨x, hx⟩ : ∃ x, x = (vs.getD k default).1 := ⟨_, rfl⟩
      rw [← hx] at hc0
      have HX : Hid (x = (vs.getD k default).1) := hx
      clear hx hI hc1
      subst haa
      by_cases h0 : x < 0
      · go_wp2_with fail
        go_ret
        exact ⟨rfl, HB2.out⟩
      · by_cases h2 : 2 < x
        · go_wp2_with fail
          go_ret
          exact ⟨rfl, HB2.out⟩
        · go_wp2_with fail
          go_roundw
          case rel =>
            refine ⟨k + 1, by omega, by go_num, fun j hj => ?_, (by first | trivial | rfl)⟩
            by_cases hjk : j < k
            · exact HKS.out j hjk
            · obtain rfl : j = k := by omega
              rw [← HX.out]; omega
          case measure => simp [intOf]; omega
    · have HKA : Hid (∀ j, j < vl → 0 ≤ (vs.getD j default).1 ∧ (vs.getD j default).1 ≤ 2) := fun j hj => HKS.out j (by omega)
      go_wp2_with fail
      go_loopw [12] (fun i wr => ∃ (k : Nat) (v : Value), k ≤ tl ∧ k ≤ pl ∧ i = .int .i64 k ∧ Hid (wr.heap[q]? = some (.cells #[.int .u8 13, .slice none 0 0, .string ⟨#[]⟩, .slice none 0 0, .int .u16 2, .slice none 0 0, .slice none 0 0, .bool false, .bool false, .int .i32 0, .bool false, .int .i64 0, .slice none 0 0, .bool false, .int .u16 0, .bool false, .int .i64 0, .slice none 0 0, .int .i64 0, .slice none 0 0, .int .u8 κ, v] 33 (0, 0))) ∧ Hid (OwnG 60 4 (GB va vl vc vs) wr (fun j => q < j) v (mkL ts ps vs k)) ∧ Hid (∀ j, j < k → (ts.getD j default).size ≤ 500) ∧ Hid (Below w.heap.size w wr)) (fun i _ => tl - (intOf i).toNat)
      case atStart => exact ⟨0, .slice none 0 0, by omega, by omega, rfl, HQ2.out, ownG_nil _ _ _ _ _, fun j hj => by omega, HB2.out⟩
      case round =>
        obtain ⟨k2, v, hkt, hkp, rfl, HQ3, HO3, HTS, HB3⟩ := hrel
        by_cases hlt2 : k2 < tl ∧ k2 < pl
        · obtain ⟨hl1, hl2⟩ := hlt2
          obtain ⟨tb, toff, hta, htc⟩ := HT.out.str_at HB3.out hl1
          obtain ⟨pb, poff, hpa, hpc⟩ := HP.out.bool_at HB3.out hl2
          obtain ⟨x, hx⟩ : ∃ x, x = ts.getD k2 default := ⟨_, rfl⟩
          rw [← hx] at htc
          have HTX : Hid (x = ts.getD k2 default) := hx
          have hxm : x.size ≤ maxLen := by
            have h1 := HTL.out
            rw [hx, List.getD_eq_getElem?_getD, List.getElem?_eq_getElem (by omega), Option.getD_some]
            have := HTZ.out _ (List.getElem_mem (l := ts) (n := k2) (by omega))
            unfold maxLen; omega
          have HXM : Hid (x.size ≤ maxLen) := hxm
          clear hx hxm
          obtain ⟨wA, hwA⟩ : ∃ wA, wA = wr.alloc (.cells #[.bool false, .string x, .slice none 0 0, .slice va vl vc] 60) := ⟨_, rfl⟩
          have HWA : Hid (wr.alloc (.cells #[.bool false, .string x, .slice none 0 0, .slice va vl vc] 60) = wA) := hwA.symm
          have hBA : Below wr.heap.size wr wA := by rw [hwA]; exact below_one _ _
          have hA : wA.heap[wr.heap.size]? = some (.cells #[.bool false, .string x, .slice none 0 0, .slice va vl vc] 60 (0, 0)) := by rw [hwA]; exact heap_alloc_new wr _
          have HAB : Hid (wA.heap[wr.heap.size]? = some (.cells #[.bool false, .string x, .slice none 0 0, .slice va vl vc] 60 (0, 0))) := hA
          have hlb1 := block_lt_of_cell htc
          have hlb2 := block_lt_of_cell hpc
          have hlqr := block_lt HQ3.out
          have hszr := HB3.out.size
          have htA : wA.cell? ⟨tb, toff + k2, none⟩ = some (.string x) := (hBA.cell (p := ⟨tb, toff + k2, none⟩) hlb1).trans htc
          have hpA : wA.cell? ⟨pb, poff + k2, none⟩ = some (.bool (ps.getD k2 default)) := (hBA.cell (p := ⟨pb, poff + k2, none⟩) hlb2).trans hpc
          have HQA : Hid (wA.heap[q]? = some (.cells #[.int .u8 13, .slice none 0 0, .string ⟨#[]⟩, .slice none 0 0, .int .u16 2, .slice none 0 0, .slice none 0 0, .bool false, .bool false, .int .i32 0, .bool false, .int .i64 0, .slice none 0 0, .bool false, .int .u16 0, .bool false, .int .i64 0, .slice none 0 0, .int .i64 0, .slice none 0 0, .int .u8 κ, v] 33 (0, 0))) := (hBA.block q hlqr).trans HQ3.out
          have HBWA : Hid (Below wr.heap.size wr wA) := hBA
          have HOA : Hid (OwnG 60 4 (GB va vl vc vs) wA (fun j => q < j) v (mkL ts ps vs k2)) := HO3.out.old (stays_gb va vl vc vs) hBA
          have HBA : Hid (Below w.heap.size w wA) := HB3.out.trans (hBA.mono hszr)
          have HVLT : Hid (∀ j, v.ownBlock = some j → j < wr.heap.size) := fun j e => (HO3.out.lt j e).2
          have hszA := hBA.size
          have hltA := block_lt hA
          clear hwA hBA hA hpc
          subst hta hpa
          cases hp : ps.getD k2 default
          case false =>
            as_aux_lemma =>
              rw [hp] at hpA
              by_cases hsz : x.size ≤ 500
              · go_upto_region 16 with fail
                rw [HWA.out]
                clear HWA
                obtain ⟨a0, a1, a2, a3⟩ := four_cells HAB.out
                have hlS := block_lt HAB.out
                have hqS := HQA.out
                have d21 := (req_cells hqS).2.2.2.2.2.2.2.2.2.2.2.2.2.2.2.2.2.2.2.2.2
                have hlqS := block_lt hqS
                clear hqS
                have HON : Hid (OwnG 60 4 (GB va vl vc vs) (wA.alloc (.cells #[.bool false, .string x, .slice none 0 0, .slice va vl vc] 60)) (fun j => q < j) v (mkL ts ps vs k2)) := HOA.out.old (stays_gb va vl vc vs) (below_one _ _)
                have HBN : Hid ((wA.alloc (.cells #[.bool false, .string x, .slice none 0 0, .slice va vl vc] 60)).heap[wA.heap.size]? = some (.cells [.bool false, .string x, .slice none 0 0, .slice va vl vc].toArray 60 (0, 0))) := heap_alloc_new wA _
                have HXN : Hid (GB va vl vc vs (fun j => j < (wA.alloc (.cells #[.bool false, .string x, .slice none 0 0, .slice va vl vc] 60)).heap.size ∧ v.ownBlock ≠ some j ∧ q < j) (wA.alloc (.cells #[.bool false, .string x, .slice none 0 0, .slice va vl vc] 60)) (mkS ts ps vs k2) (fun j => ([.bool false, .string x, .slice none 0 0, .slice va vl vc] : List Value).getD j default)) := by
                  rw [mkS_no hp, ← HTX.out]
                  exact ⟨rfl, rfl, ⟨_, _, _, rfl, ⟨isB_nil _, fun p hp => by cases hp⟩⟩, .inr ⟨rfl, rfl⟩⟩
                have HFN : Hid ((fun j => q < j) (wA.alloc (.cells #[.bool false, .string x, .slice none 0 0, .slice va vl vc] 60)).heap.size) := by show q < _; simp; omega
                go_wp2_with (at_builtin; refine wpList_appendG_hid rfl (.tmp 96) (.tmp 98) 31 rfl (stays_gb va vl vc vs) elem_t rfl HON.out rfl HBN.out rfl ?c1 (mkS ts ps vs k2) HXN.out HFN.out ?c2 ?c3 ?_)
                case c1 => exact ⟨rfl, rfl, rfl, rfl⟩
                case c2 => rw [mkL_len]; unfold maxLen; omega
                case c3 => rw [mkL_len]; omega
                intro v4 w4 ho4 hK4 hv4
                have hq4 : w4.heap[q]? = some (.cells #[.int .u8 13, .slice none 0 0, .string ⟨#[]⟩, .slice none 0 0, .int .u16 2, .slice none 0 0, .slice none 0 0, .bool false, .bool false, .int .i32 0, .bool false, .int .i64 0, .slice none 0 0, .bool false, .int .u16 0, .bool false, .int .i64 0, .slice none 0 0, .int .i64 0, .slice none 0 0, .int .u8 κ, v] 33 (0, 0)) := (hK4.block q (by simp; omega) (fun e => by have := (HON.out.lt q e).1; omega)).trans (((below_one wA (.cells #[.bool false, .string x, .slice none 0 0, .slice va vl vc] 60)).block q hlqS).trans HQA.out)
                have HQ4 : Hid (w4.heap[q]? = some (.cells #[.int .u8 13, .slice none 0 0, .string ⟨#[]⟩, .slice none 0 0, .int .u16 2, .slice none 0 0, .slice none 0 0, .bool false, .bool false, .int .i32 0, .bool false, .int .i64 0, .slice none 0 0, .bool false, .int .u16 0, .bool false, .int .i64 0, .slice none 0 0, .int .i64 0, .slice none 0 0, .int .u8 κ, v] 33 (0, 0))) := hq4
                have g21 := (req_cells hq4).2.2.2.2.2.2.2.2.2.2.2.2.2.2.2.2.2.2.2.2.2
                have hfz := (req_frozen hq4).2.2.2.2.2.2.2.2.2.2.2.2.2.2.2.2.2.2.2.2.2
                have hlq4 := block_lt hq4
                have HB4 : Hid (Below w.heap.size w w4) := (HBA.out.trans ((below_one wA (.cells #[.bool false, .string x, .slice none 0 0, .slice va vl vc] 60)).mono HBA.out.size)).trans (hK4.below (by have := HBA.out.size; simp; omega) (fun j hj e => by have := (HON.out.lt j e).1; omega))
                have HO4 : Hid (OwnG 60 4 (GB va vl vc vs) w4 (fun j => q < j) v4 (mkL ts ps vs (k2 + 1))) := by rw [mkL_succ]; exact ho4
                clear hq4 ho4 hK4 hv4 d21
                obtain ⟨xa4, xc4, hv4e⟩ := HO4.out.shape
                rw [mkL_len] at hv4e
                subst hv4e
                go_wp2_with fail
                go_roundw
                case rel =>
                  refine ⟨k2 + 1, _, by omega, by omega, by go_num, (req_set21 HQ4.out _), ?_, ?_, ?_⟩
                  · exact HO4.out.kept (stays_gb va vl vc vs) (fun j hj hf => Below.heap_setCell _ _ _ _ (by show j ≠ q; omega)) (by simp [World.setCell]) (fun j _ hf => hf)
                  · intro j hj
                    by_cases hjk : j < k2
                    · exact HTS.out j hjk
                    · obtain rfl : j = k2 := by omega
                      rw [← HTX.out]; exact hsz
                  · exact ((kept_of HB4.out).setCell (S := fun j => j = q) (p := ⟨q, 21, none⟩) (fun _ => rfl) _).below (Nat.le_refl _) (fun j hj e => by omega)
                case measure => simp [intOf]; omega
              · have hsz2 : 500 < x.size := by omega
                go_upto_region 16 with fail
                rw [HWA.out]
                clear HWA
                go_wp2_with fail
                go_ret
                exact ⟨rfl, HBA.out⟩
          case true =>
            as_aux_lemma =>
              rw [hp] at hpA
              obtain ⟨gc, cp, w6, hcv, hg1, hg2, hI6, hB6⟩ := conv_bytes wA x HXM.out
              have ht6 : w6.cell? ⟨tb, toff + k2, none⟩ = some (.string x) := (hB6.cell (p := ⟨tb, toff + k2, none⟩) (by omega)).trans htA
              have HA6 : Hid (w6.heap[wr.heap.size]? = some (.cells #[.bool false, .string x, .slice none 0 0, .slice va vl vc] 60 (0, 0))) := (hB6.block _ hltA).trans HAB.out
              have HI6 : Hid (IsB w6 (some ⟨gc, 0, none⟩) x.size cp (sNums x)) := hI6
              have HB6 : Hid (Below wA.heap.size wA w6) := hB6
              have hsz6 := hB6.size
              have HQ6 : Hid (w6.heap[q]? = some (.cells #[.int .u8 13, .slice none 0 0, .string ⟨#[]⟩, .slice none 0 0, .int .u16 2, .slice none 0 0, .slice none 0 0, .bool false, .bool false, .int .i32 0, .bool false, .int .i64 0, .slice none 0 0, .bool false, .int .u16 0, .bool false, .int .i64 0, .slice none 0 0, .int .i64 0, .slice none 0 0, .int .u8 κ, v] 33 (0, 0))) := (hB6.block q (by omega)).trans HQA.out
              clear hI6 hB6
              go_upto_region 16 with fail
              rw [HWA.out]
              clear HWA
              go_wp2_with (refine wpList_store_hid (old := #[.bool false, .string x, .slice none 0 0, .slice va vl vc]) (T := 60) rfl 60 (.tmp 13) (.tmp 88) rfl rfl rfl Try.isz60 (by simp [Value.oneCell']) HA6.out rfl ?_)
              intro wS hqS hKS hsS
              have htS : wS.cell? ⟨tb, toff + k2, none⟩ = some (.string x) := (hKS.cell (p := ⟨tb, toff + k2, none⟩) (by simp only; omega) (by simp only; omega)).trans ht6
              have HSB : Hid (wS.heap[wr.heap.size]? = some (.cells #[.bool true, .string ⟨#[]⟩, .slice (some ⟨gc, 0, none⟩) x.size cp, .slice none 0 0] 60 (0, 0))) := hqS
              have HQS : Hid (wS.heap[q]? = some (.cells #[.int .u8 13, .slice none 0 0, .string ⟨#[]⟩, .slice none 0 0, .int .u16 2, .slice none 0 0, .slice none 0 0, .bool false, .bool false, .int .i32 0, .bool false, .int .i64 0, .slice none 0 0, .bool false, .int .u16 0, .bool false, .int .i64 0, .slice none 0 0, .int .i64 0, .slice none 0 0, .int .u8 κ, v] 33 (0, 0))) := (hKS.block q (by omega) (by omega)).trans HQ6.out
              have HOS : Hid (OwnG 60 4 (GB va vl vc vs) wS (fun j => q < j) v (mkL ts ps vs k2)) :=
                HO3.out.kept (stays_gb va vl vc vs) (fun j hj _ => (hKS.block j (by omega) (by omega)).trans ((HB6.out.block j (by omega)).trans ((HBWA.out).block j hj))) (by rw [hsS]; omega) (fun _ _ h => h)
              have HBS : Hid (Below w.heap.size w wS) := (HBA.out.trans (HB6.out.mono HBA.out.size)).trans (hKS.below (by omega) (fun j hj e => by omega))
              have HIS : Hid (IsBF (fun j => j < (wS.alloc (.cells #[.bool true, .string ⟨#[]⟩, .slice (some ⟨gc, 0, none⟩) x.size cp, .slice none 0 0] 60)).heap.size ∧ v.ownBlock ≠ some j ∧ q < j) (wS.alloc (.cells #[.bool true, .string ⟨#[]⟩, .slice (some ⟨gc, 0, none⟩) x.size cp, .slice none 0 0] 60)) (some ⟨gc, 0, none⟩) x.size cp (sNums x)) := by
                refine ⟨(HI6.out.kept hKS (fun p hp _ e => by cases hp; simp only at e; omega)).old (below_one _ _), fun p hp _ => ?_⟩
                cases hp
                refine ⟨⟨by simp only; simp; omega, fun e => ?_, by simp only; omega⟩, by simp only; simp; omega⟩
                have := HVLT.out _ e
                simp only at this
                omega
              have hle6 := hKS.size
              clear hqS hKS htA ht6 hpA hsS
              by_cases hsz : x.size ≤ 500
              · skip
                obtain ⟨a0, a1, a2, a3⟩ := four_cells HSB.out
                have hlS := block_lt HSB.out
                have hqS := HQS.out
                have d21 := (req_cells hqS).2.2.2.2.2.2.2.2.2.2.2.2.2.2.2.2.2.2.2.2.2
                have hlqS := block_lt hqS
                clear hqS
                have HON : Hid (OwnG 60 4 (GB va vl vc vs) (wS.alloc (.cells #[.bool true, .string ⟨#[]⟩, .slice (some ⟨gc, 0, none⟩) x.size cp, .slice none 0 0] 60)) (fun j => q < j) v (mkL ts ps vs k2)) := HOS.out.old (stays_gb va vl vc vs) (below_one _ _)
                have HBN : Hid ((wS.alloc (.cells #[.bool true, .string ⟨#[]⟩, .slice (some ⟨gc, 0, none⟩) x.size cp, .slice none 0 0] 60)).heap[wS.heap.size]? = some (.cells [.bool true, .string ⟨#[]⟩, .slice (some ⟨gc, 0, none⟩) x.size cp, .slice none 0 0].toArray 60 (0, 0))) := heap_alloc_new wS _
                have HXN : Hid (GB va vl vc vs (fun j => j < (wS.alloc (.cells #[.bool true, .string ⟨#[]⟩, .slice (some ⟨gc, 0, none⟩) x.size cp, .slice none 0 0] 60)).heap.size ∧ v.ownBlock ≠ some j ∧ q < j) (wS.alloc (.cells #[.bool true, .string ⟨#[]⟩, .slice (some ⟨gc, 0, none⟩) x.size cp, .slice none 0 0] 60)) (mkS ts ps vs k2) (fun j => ([.bool true, .string ⟨#[]⟩, .slice (some ⟨gc, 0, none⟩) x.size cp, .slice none 0 0] : List Value).getD j default)) := by
                  rw [mkS_yes hp, ← HTX.out]
                  exact ⟨rfl, rfl, ⟨_, _, _, rfl, HIS.out⟩, .inl ⟨rfl, rfl⟩⟩
                have HFN : Hid ((fun j => q < j) (wS.alloc (.cells #[.bool true, .string ⟨#[]⟩, .slice (some ⟨gc, 0, none⟩) x.size cp, .slice none 0 0] 60)).heap.size) := by show q < _; simp; omega
                go_wp2_with (at_builtin; refine wpList_appendG_hid rfl (.tmp 96) (.tmp 98) 31 rfl (stays_gb va vl vc vs) elem_t rfl HON.out rfl HBN.out rfl ?c1 (mkS ts ps vs k2) HXN.out HFN.out ?c2 ?c3 ?_)
                case c1 => exact ⟨rfl, rfl, rfl, rfl⟩
                case c2 => rw [mkL_len]; unfold maxLen; omega
                case c3 => rw [mkL_len]; omega
                intro v4 w4 ho4 hK4 hv4
                have hq4 : w4.heap[q]? = some (.cells #[.int .u8 13, .slice none 0 0, .string ⟨#[]⟩, .slice none 0 0, .int .u16 2, .slice none 0 0, .slice none 0 0, .bool false, .bool false, .int .i32 0, .bool false, .int .i64 0, .slice none 0 0, .bool false, .int .u16 0, .bool false, .int .i64 0, .slice none 0 0, .int .i64 0, .slice none 0 0, .int .u8 κ, v] 33 (0, 0)) := (hK4.block q (by simp; omega) (fun e => by have := (HON.out.lt q e).1; omega)).trans (((below_one wS (.cells #[.bool true, .string ⟨#[]⟩, .slice (some ⟨gc, 0, none⟩) x.size cp, .slice none 0 0] 60)).block q hlqS).trans HQS.out)
                have HQ4 : Hid (w4.heap[q]? = some (.cells #[.int .u8 13, .slice none 0 0, .string ⟨#[]⟩, .slice none 0 0, .int .u16 2, .slice none 0 0, .slice none 0 0, .bool false, .bool false, .int .i32 0, .bool false, .int .i64 0, .slice none 0 0, .bool false, .int .u16 0, .bool false, .int .i64 0, .slice none 0 0, .int .i64 0, .slice none 0 0, .int .u8 κ, v] 33 (0, 0))) := hq4
                have g21 := (req_cells hq4).2.2.2.2.2.2.2.2.2.2.2.2.2.2.2.2.2.2.2.2.2
                have hfz := (req_frozen hq4).2.2.2.2.2.2.2.2.2.2.2.2.2.2.2.2.2.2.2.2.2
                have hlq4 := block_lt hq4
                have HB4 : Hid (Below w.heap.size w w4) := (HBS.out.trans ((below_one wS (.cells #[.bool true, .string ⟨#[]⟩, .slice (some ⟨gc, 0, none⟩) x.size cp, .slice none 0 0] 60)).mono HBS.out.size)).trans (hK4.below (by have := HBS.out.size; simp; omega) (fun j hj e => by have := (HON.out.lt j e).1; omega))
                have HO4 : Hid (OwnG 60 4 (GB va vl vc vs) w4 (fun j => q < j) v4 (mkL ts ps vs (k2 + 1))) := by rw [mkL_succ]; exact ho4
                clear hq4 ho4 hK4 hv4 d21
                obtain ⟨xa4, xc4, hv4e⟩ := HO4.out.shape
                rw [mkL_len] at hv4e
                subst hv4e
                go_wp2_with fail
                go_roundw
                case rel =>
                  refine ⟨k2 + 1, _, by omega, by omega, by go_num, (req_set21 HQ4.out _), ?_, ?_, ?_⟩
                  · exact HO4.out.kept (stays_gb va vl vc vs) (fun j hj hf => Below.heap_setCell _ _ _ _ (by show j ≠ q; omega)) (by simp [World.setCell]) (fun j _ hf => hf)
                  · intro j hj
                    by_cases hjk : j < k2
                    · exact HTS.out j hjk
                    · obtain rfl : j = k2 := by omega
                      rw [← HTX.out]; exact hsz
                  · exact ((kept_of HB4.out).setCell (S := fun j => j = q) (p := ⟨q, 21, none⟩) (fun _ => rfl) _).below (Nat.le_refl _) (fun j hj e => by omega)
                case measure => simp [intOf]; omega
              · have hsz2 : 500 < x.size := by omega
                go_wp2_with fail
                go_ret
                exact ⟨rfl, HBS.out⟩
        · have HLT2 : Hid (¬ (k2 < tl ∧ k2 < pl)) := hlt2
          clear hlt2
          go_upto_region 13 with fail
          go_cut [70] (fun b wc => b = .bool false ∧ wr = wc)
          case first =>
            by_cases h1 : k2 < tl
            · have h2 : ¬ k2 < pl := fun h => HLT2.out ⟨h1, h⟩
              go_wp2_with fail
              go_meet
              case rel => exact ⟨rfl, rfl⟩
            · go_wp2_with fail
              go_meet
              case rel => exact ⟨rfl, rfl⟩
          case rest =>
            obtain ⟨rfl, rfl⟩ := hcut
            obtain ⟨xa, xc, hve, hVw⟩ := HO3.out.view gb_b
            rw [mkL_len] at hve hVw
            subst hve
            have HQ3' : Hid (wr.heap[q]? = some (.cells #[.int .u8 13, .slice none 0 0, .string ⟨#[]⟩, .slice none 0 0, .int .u16 2, .slice none 0 0, .slice none 0 0, .bool false, .bool false, .int .i32 0, .bool false, .int .i64 0, .slice none 0 0, .bool false, .int .u16 0, .bool false, .int .i64 0, .slice none 0 0, .int .i64 0, .slice none 0 0, .int .u8 κ, .slice xa k2 xc] 33 (0, 0))) := HQ3
            obtain ⟨Ls, hLs⟩ : ∃ Ls, Ls = mkL ts ps vs k2 := ⟨_, rfl⟩
            have HLL : Hid (Ls.length = k2) := by show _ = _; rw [hLs, mkL_len]
            have HLG : Hid (∀ j, j < k2 → (Ls.map nS).getD j default = nS (mkS ts ps vs j)) := fun j hj => by rw [hLs]; exact mkL_get ts ps vs hj
            have HVW : Hid (View 4 VSt wr xa k2 xc Ls) := by
              have := view_gb (HV.out.old stays_v HB3.out) hVw
              rw [hLs]; exact this
            have HFQ : Hid (FitQ (mkB κ Ls)) := by
              have := (mk_fit (ps := ps) (κ := κ) (k := k2) (by omega) (by rw [HVL.out]; exact hv1) HTS.out HVS.out).1
              rw [hLs]; exact this
            have HFI : Hid (FineQ (mkB κ Ls)) := by rw [hLs]; exact mk_finq HK.out.1 HTS.out HVS.out
            have hok : (putB (mkB κ Ls)).2 = 0 := by rw [hLs]; exact mk_fine (by omega) (by rw [HVL.out]; exact hv1) HK.out HTS.out (by rw [HVL.out]; exact HKA.out)
            have hpg := put_got HFI.out hok
            have hplen := putB_len HFQ.out (show (ByteArray.empty).size ≤ 1048576 from Nat.zero_le _)
            obtain ⟨X, hX⟩ : ∃ X, (X, 0) = putB (mkB κ Ls) := ⟨(putB (mkB κ Ls)).1, Prod.ext rfl hok.symm⟩
            have HX : Hid ((X, 0) = putB (mkB κ Ls)) := hX
            rw [← hX] at hpg hplen
            have HE1 : Hid ((0 : Int) = getE 13 X) := hpg.1.symm
            have HG1 : Hid ((getR 13 X).val = nQ (mkB κ Ls)) := hpg.2
            obtain ⟨n, hn⟩ : ∃ n, n = X.length := ⟨_, rfl⟩
            have HN : Hid (n ≤ 140737488351232) := by show _ ≤ _; rw [hn]; exact hplen
            have HNX : Hid (X.length = n) := hn.symm
            have HRQ : Hid (RqAt wr none 0 0 none 0 0 none 0 0 none 0 0 none 0 0 none 0 0 none 0 0 xa k2 xc (13, [], ByteArray.empty, ByteArray.empty, (2, [], [], false, false, 0, false, (0, ByteArray.empty), false, 0, false, 0), [], (0, ByteArray.empty), κ, Ls)) :=
              ⟨⟨show (0 : Int) ≤ 13 by decide, show (13 : Int) ≤ 255 by decide⟩, view_nil _ _ _, isB_nil _, run_small wr ⟨by decide, by decide⟩ ⟨by decide, by decide⟩ false, view_nil _ _ _, isB_nil _, ⟨HK.out.1, Int.le_trans HK.out.2 (by decide)⟩, HVW.out⟩
            clear hVw hLs hok hpg hplen hX hn
            go_wp2_with (refine wpList_load_row rfl 33 (.tmp 10) rfl rfl HQ3'.out Try.isz33 Try.agg33 ?_)
            refine (put_any HRQ.out HFQ.out HX.out).mono ?_
            rintro e w5 ⟨ya, yc, rfl, HP5, HB35⟩
            rw [HNX.out]
            have HI5 : Hid (IsB w5 ya n yc X) := by
              have := HP5.out.2
              rw [HNX.out] at this
              exact this
            clear HP5
            go_wp2_with fail
            refine (get_any (op := 13) HI5.out HN.out ⟨by decide, by decide⟩ HE1.out).mono ?_
            rintro e w6 ⟨opr8, oa8, ol8, oc8, os8, tx8, ia8, il8, ic8, id8, co8, a8, l8, c8, vs8, na8, nl8, nc8, ns8, b28, b48, pn8, b88, sk18, sb8, sa8, sl8, sc8, b168, sr8, b328, tm8, ea8, el8, ec8, es8, tk8, tb8, ta8, tl8, tc8, kd8, aa8, al8, ac8, ss8, rfl, HR6, HV6, _, HB56⟩
            obtain ⟨hco8, hkd8, hss8⟩ := got_mkB ((HV6.out (by trivial)).trans HG1.out)
            subst hco8 hss8
            have hkd9 : κ = kd8 := hkd8.symm
            clear hkd8
            subst hkd9
            have hal : al8 = k2 := by
              have h1 := HR6.out.all.1
              have h2 : (Ls.map nS).length = al8 := h1
              rw [List.length_map, HLL.out] at h2
              exact h2.symm
            subst hal
            go_wp2_with (refine wpList_store_hid (old := #[.int .u8 0, .slice none 0 0, .string ⟨#[]⟩, .slice none 0 0, .int .u16 0, .slice none 0 0, .slice none 0 0, .bool false, .bool false, .int .i32 0, .bool false, .int .i64 0, .slice none 0 0, .bool false, .int .u16 0, .bool false, .int .i64 0, .slice none 0 0, .int .i64 0, .slice none 0 0, .int .u8 0, .slice none 0 0]) (T := 33) rfl 33 (.tmp 16) (.tmp 109) rfl rfl rfl Try.isz33 (by simp [Value.oneCell']) (heap_alloc_new _ _) rfl ?_)
            intro w7 hq7 hK7 hs7
            have HB67 : Hid (Below w6.heap.size w6 w7) := ((kept_of (below_one w6 _)).trans hK7 (fun _ _ e => e)).below (S := fun k => k = w6.heap.size) (Nat.le_refl _) (fun k hk e => by omega)
            have HBR7 : Hid (Below wr.heap.size wr w7) := (HB35.out.trans (HB56.out.mono HB35.out.size)).trans (HB67.out.mono (Nat.le_trans HB35.out.size HB56.out.size))
            have HB7 : Hid (Below w.heap.size w w7) := HB3.out.trans (HBR7.out.mono HB3.out.size)
            have hqq := (HBR7.out.block q (block_lt HQ3'.out)).trans HQ3'.out
            obtain ⟨q8, hq8⟩ : ∃ q8, q8 = w6.heap.size := ⟨_, rfl⟩
            rw [← hq8] at hq7 ⊢
            have HQ7 : Hid (w7.heap[q8]? = some (.cells #[.int .u8 opr8, .slice oa8 ol8 oc8, .string tx8, .slice ia8 il8 ic8, .int .u16 2, .slice a8 l8 c8, .slice na8 nl8 nc8, .bool b28, .bool b48, .int .i32 pn8, .bool b88, .int .i64 sk18, .slice sa8 sl8 sc8, .bool b168, .int .u16 sr8, .bool b328, .int .i64 tm8, .slice ea8 el8 ec8, .int .i64 tk8, .slice ta8 tl8 tc8, .int .u8 κ, .slice aa8 al8 ac8] 33 (0, 0))) := hq7
            have HQQ : Hid (w7.heap[q]? = some (.cells #[.int .u8 13, .slice none 0 0, .string ⟨#[]⟩, .slice none 0 0, .int .u16 2, .slice none 0 0, .slice none 0 0, .bool false, .bool false, .int .i32 0, .bool false, .int .i64 0, .slice none 0 0, .bool false, .int .u16 0, .bool false, .int .i64 0, .slice none 0 0, .int .i64 0, .slice none 0 0, .int .u8 κ, .slice xa al8 xc] 33 (0, 0))) := hqq
            have HV8 : Hid (View 4 VSt w7 aa8 al8 ac8 (Ls.map nS)) := view_old_st HR6.out.all HB67.out
            have hlq8 := block_lt hq7
            have hlqq := block_lt hqq
            obtain ⟨_, _, _, _, e4, _, _, _, _, _, _, _, _, _, _, _, _, _, _, _, e20, e21⟩ := req_cells hq7
            obtain ⟨_, _, _, _, _, _, _, _, _, _, _, _, _, _, _, _, _, _, _, _, g20, g21⟩ := req_cells hqq
            clear hK7 hs7 hq7 hqq hq8 HR6 HV6 HB35 HB56 HB67 HBR7
            have hkk : (κ != κ) = false := by simp
            go_wp2_with fail
            go_loopw [18] (fun i wx => ∃ k3 : Nat, k3 ≤ al8 ∧ i = .int .i64 k3 ∧ Hid (Below w7.heap.size w7 wx)) (fun i _ => al8 - (intOf i).toNat)
            case atStart => exact ⟨0, by omega, rfl, Below.refl _ _⟩
            case round =>
              obtain ⟨k3, hk3, rfl, HB8⟩ := hrel
              have HBw : Hid (Below w.heap.size w wr) := HB7.out.trans (HB8.out.mono HB7.out.size)
              have f21 : wr.cell? ⟨q8, 21, none⟩ = some (.slice aa8 al8 ac8) := (HB8.out.cell (p := ⟨q8, 21, none⟩) hlq8).trans e21
              have p21 : wr.cell? ⟨q, 21, none⟩ = some (.slice xa al8 xc) := (HB8.out.cell (p := ⟨q, 21, none⟩) hlqq).trans g21
              by_cases h3 : k3 < al8
              · obtain ⟨sbk, soff, a1, l1, c1, a2, l2, c2, haa, s0, s1, s2, s3, hI1, hV2⟩ := HV8.out.st_at HB8.out h3
                rw [HLG.out k3 h3] at s0 s1 hI1 hV2
                obtain ⟨tb, toff, hta, htc⟩ := HT.out.str_at HBw.out (show k3 < tl by omega)
                obtain ⟨pb, poff, hpa, hpc⟩ := HP.out.bool_at HBw.out (show k3 < pl by omega)
                obtain ⟨x, hx⟩ : ∃ x, x = ts.getD k3 default := ⟨_, rfl⟩
                rw [← hx] at htc
                have HTX : Hid (x = ts.getD k3 default) := hx
                obtain ⟨g, hg⟩ : ∃ g, g = wr.heap.size := ⟨_, rfl⟩
                have HGE : Hid (wr.heap.size = g) := hg.symm
                have hlb1 := block_lt_of_cell htc
                have hlb2 := block_lt_of_cell hpc
                have hlb3 := block_lt_of_cell s0
                have hlr8 : q8 < wr.heap.size := block_lt_of_cell f21
                have hlrq : q < wr.heap.size := block_lt_of_cell p21
                obtain ⟨sp, hsp⟩ : ∃ sp, sp = (nS (mkS ts ps vs k3)).prep := ⟨_, rfl⟩
                obtain ⟨sx, hsx⟩ : ∃ sx, sx = (nS (mkS ts ps vs k3)).text := ⟨_, rfl⟩
                obtain ⟨si, hsi⟩ : ∃ si, si = (nS (mkS ts ps vs k3)).id := ⟨_, rfl⟩
                obtain ⟨vv, hvv⟩ : ∃ vv, vv = (nS (mkS ts ps vs k3)).vals := ⟨_, rfl⟩
                rw [← hsp] at s0
                rw [← hsx] at s1
                rw [← hsi] at hI1
                rw [← hvv] at hV2
                have HV2 : Hid (View 2 VV w7 a2 l2 c2 vv) := hV2
                have HL2 : Hid (vv.length = l2) := hV2.1
                have HVV : Hid (l2 ≤ vl ∧ ∀ j, j < l2 → vv.getD j default = nV (vs.getD j default)) := by
                  cases hp : ps.getD k3 default with
                  | true =>
                    rw [mkS_yes hp] at hvv
                    have h0 : vv = [] := hvv
                    have : l2 = 0 := by rw [← HL2.out, h0]; rfl
                    exact ⟨by omega, fun j hj => by omega⟩
                  | false =>
                    rw [mkS_no hp] at hvv
                    have h0 : vv = vs.map nV := hvv
                    have h1 : l2 = vl := by rw [← HL2.out, h0, List.length_map, HVL.out]
                    exact ⟨by omega, fun j hj => by rw [h0]; exact map_getD (by rw [HVL.out]; omega)⟩
                obtain ⟨wB, hwB⟩ : ∃ wB, wB = wr.alloc (.cells #[.bool sp, .string sx, .slice a1 l1 c1, .slice a2 l2 c2] 60) := ⟨_, rfl⟩
                have HWB : Hid (wB = wr.alloc (.cells #[.bool sp, .string sx, .slice a1 l1 c1, .slice a2 l2 c2] 60)) := hwB
                have hBB : Below wr.heap.size wr wB := by rw [hwB]; exact below_one _ _
                have HBB : Hid (Below wr.heap.size wr wB) := hBB
                have HB8B : Hid (Below w7.heap.size w7 wB) := HB8.out.trans (hBB.mono HB8.out.size)
                have hBk : wB.heap[g]? = some (.cells #[.bool sp, .string sx, .slice a1 l1 c1, .slice a2 l2 c2] 60 (0, 0)) := by rw [hwB, hg]; exact heap_alloc_new wr _
                have HSK : Hid (wB.heap[g]? = some (.cells #[.bool sp, .string sx, .slice a1 l1 c1, .slice a2 l2 c2] 60 (0, 0))) := hBk
                have hcv : ∀ n, (convert 23 9 (.slice a1 l1 c1)).run Try.prog (wB.drewN n) = .ok (.string si) (wB.drewN n) := fun n => by
                  have := ((hI1.old HB8.out).old (below_drewN hBB n)).conv
                  rw [strOfNums_sNums] at this
                  exact this
                have htB : wB.cell? ⟨tb, toff + k3, none⟩ = some (.string x) := (hBB.cell (p := ⟨tb, toff + k3, none⟩) hlb1).trans htc
                have hpB : wB.cell? ⟨pb, poff + k3, none⟩ = some (.bool (ps.getD k3 default)) := (hBB.cell (p := ⟨pb, poff + k3, none⟩) hlb2).trans hpc
                obtain ⟨m0, m1, m2, m3⟩ := four_cells hBk
                have hlg := block_lt hBk
                have HVW2 : Hid (vv = (nS (mkS ts ps vs k3)).vals) := hvv
                have HSP : Hid (sp = (nS (mkS ts ps vs k3)).prep) := hsp
                have HSX : Hid (sx = (nS (mkS ts ps vs k3)).text) := hsx
                have HSI : Hid (si = (nS (mkS ts ps vs k3)).id) := hsi
                clear hsp hsx hsi hwB hBB hBk hV2 hI1 hx hvv hg hpc htc
                subst hta hpa haa
                go_upto_region 29 with fail
                rw [← HWB.out]
                (try rw [HGE.out])
                clear s0 s1 s2 s3 f21 p21
                have hk3t : k3 < tl := by omega
                have hk3p : k3 < pl := by omega
                have hxx : (x.toList == x.toList) = true := by simp
                have hxn : (x.toList != x.toList) = false := by simp
                have hvl : ((vl : Int) != (vl : Int)) = false := by simp
                go_cut [216] (fun b wc => b = .bool false ∧ Hid (Below wB.heap.size wB wc))
                case first =>
                  cases hp : ps.getD k3 default
                  case true =>
                    rw [hp] at hpB
                    have hsp := HSP.out
                    have hsx := HSX.out
                    have hsi := HSI.out
                    rw [mkS_yes hp] at hsp hsx hsi
                    have hsp2 : sp = true := hsp
                    have hsi2 : si = x := hsi.trans HTX.out.symm
                    have hl20 : l2 = 0 := by
                      have h2 := HVW2.out
                      rw [mkS_yes hp] at h2
                      have h0 : vv = [] := h2
                      rw [← HL2.out, h0]; rfl
                    have hqa : (si.toList == x.toList) = true := by rw [hsi2]; simp
                    have hqb : (si.toList != x.toList) = false := by rw [hsi2]; simp
                    subst hsp2 hl20
                    clear hsp hsx hsi hsi2 hxx hxn
                    refine wp_region_quiet_lit (by kernel_rfl) (by kernel_rfl) ?_
                    simp only [List.append_eq, List.cons_append, List.nil_append]
                    repeat (go_big_quiet_step (fail))
                    refine wpQuiet_nil ?_
                    intro w9 hw9
                    obtain ⟨nq, hw9⟩ := hw9
                    subst hw9
                    go_wp2_with fail
                    go_meet
                    case rel => exact ⟨rfl, below_drewN (Below.refl _ _) _⟩
                  case false =>
                    rw [hp] at hpB
                    have hsp := HSP.out
                    have hsx := HSX.out
                    have hsi := HSI.out
                    rw [mkS_no hp] at hsp hsx hsi
                    have hsp2 : sp = false := hsp
                    have hsx2 : sx = x := hsx.trans HTX.out.symm
                    have hl20 : l2 = vl := by
                      have h2 := HVW2.out
                      rw [mkS_no hp] at h2
                      have h0 : vv = vs.map nV := h2
                      rw [← HL2.out, h0, List.length_map, HVL.out]
                    have hqa : (sx.toList == x.toList) = true := by rw [hsx2]; simp
                    have hqb : (sx.toList != x.toList) = false := by rw [hsx2]; simp
                    subst hsp2
                    have hvq : ((l2 : Int) != (vl : Int)) = false := by simp; omega
                    clear hsp hsx hsi hsx2 hxx hxn hl20 hvl
                    refine wp_region_quiet_lit (by kernel_rfl) (by kernel_rfl) ?_
                    simp only [List.append_eq, List.cons_append, List.nil_append]
                    repeat (go_big_quiet_step (fail))
                    refine wpQuiet_nil ?_
                    intro w9 hw9
                    obtain ⟨nq, hw9⟩ := hw9
                    subst hw9
                    go_wp2_with fail
                    go_meet
                    case rel => exact ⟨rfl, below_drewN (Below.refl _ _) _⟩
                case rest =>
                  obtain ⟨rfl, HBC⟩ := hcut
                  have hm3c : wc.cell? ⟨g, 3, none⟩ = some (.slice a2 l2 c2) := (HBC.out.cell (p := ⟨g, 3, none⟩) hlg).trans m3
                  go_wp2_with fail
                  go_loopw [20] (fun i wx => ∃ k4 : Nat, k4 ≤ l2 ∧ i = .int .i64 k4 ∧ Hid (Below wB.heap.size wB wx)) (fun i _ => l2 - (intOf i).toNat)
                  case atStart => exact ⟨0, by omega, rfl, HBC⟩
                  case round =>
                    as_aux_lemma =>
                      obtain ⟨k4, hk4, rfl, HB9⟩ := hrel
                      have hm3 : wr.cell? ⟨g, 3, none⟩ = some (.slice a2 l2 c2) := (HB9.out.cell (p := ⟨g, 3, none⟩) hlg).trans m3
                      have HB79 : Hid (Below w7.heap.size w7 wr) := HB8B.out.trans (HB9.out.mono HB8B.out.size)
                      have HBw9 : Hid (Below w.heap.size w wr) := HB7.out.trans (HB79.out.mono HB7.out.size)
                      by_cases h4 : k4 < l2
                      · have h5 : k4 < vl := by have := HVV.out.1; omega
                        obtain ⟨b5, o5, x5, m5, d5, ha2, y0, y1, hJ⟩ := HV2.out.val_at HB79.out h4
                        obtain ⟨b6, o6, x6, m6, d6, hva, z0, z1, hM⟩ := HV.out.val_at HBw9.out h5
                        rw [HVV.out.2 k4 h4, nV_kind] at y0
                        rw [HVV.out.2 k4 h4] at hJ
                        obtain ⟨val, hval⟩ : ∃ val, val = vs.getD k4 default := ⟨_, rfl⟩
                        rw [← hval] at y0 hJ z0 hM
                        obtain ⟨kk, hkk2⟩ : ∃ kk, kk = val.1 := ⟨_, rfl⟩
                        rw [← hkk2] at y0 z0
                        subst ha2 hva
                        clear hval m0 m1 m2 m3 htB hpB hcv
                        have hne : (kk != kk) = false := by simp
                        by_cases hs2 : kk = 2
                        · rw [nV_set (by rw [← hkk2]; exact hs2)] at hJ
                          have hc5 : ∀ n, (convert 23 9 (.slice x5 m5 d5)).run Try.prog (wr.drewN n) = .ok (.string val.2) (wr.drewN n) := fun n => by
                            have := (hJ.old (below_drewN HB79.out n)).conv
                            rw [strOfNums_sNums] at this
                            exact this
                          have hc6 : ∀ n, (convert 23 9 (.slice x6 m6 d6)).run Try.prog (wr.drewN n) = .ok (.string val.2) (wr.drewN n) := fun n => by
                            have := (hM.old (below_drewN HBw9.out n)).conv
                            rw [strOfNums_sNums] at this
                            exact this
                          have ht2 : (kk == 2) = true := by simpa using hs2
                          clear hJ hM hkk2 hs2
                          go_wp2_with fail
                          go_quiet (fail)
                          go_wp2_with fail
                          go_roundw
                          case rel => exact ⟨k4 + 1, by omega, by go_num, below_drewN HB9.out _⟩
                          case measure => simp [intOf]; omega
                        · have ht2 : (kk == 2) = false := by simpa using hs2
                          clear hJ hM hkk2 hs2
                          go_wp2_with fail
                          go_quiet (fail)
                          go_wp2_with fail
                          go_roundw
                          case rel => exact ⟨k4 + 1, by omega, by go_num, below_drewN HB9.out _⟩
                          case measure => simp [intOf]; omega
                      · go_wp2_with fail
                        go_roundw
                        case rel => exact ⟨k3 + 1, by omega, by go_num, HB79⟩
                        case measure => simp [intOf]; omega
              · go_wp2_with fail
                go_ret
                exact ⟨rfl, HBw.out⟩

end walk
section opened
open Go.RowKit Go.ChangeShapes Go.WideShapes Go.ChangeAt Go.Deep
variable {H : Type} {enc : TypeId × Value → H} {W : World} {base : Nat}

theorem open_bools {fuel : Nat} {v : Value} {x : DataW H × List MemPlace} (h : DataW.trod enc Try.prog W base (fun _ => true) true fuel 58 [v] = some x) (hb : Rows.uptoBulk x.1 ≤ 1048576) :
    ∃ a len cap bs, v = .slice a len cap ∧ View 1 VBo W a len cap bs ∧ bs.length ≤ 1048576 ∧ ∀ y ∈ bs, True := by
  refine open_items (by decide) VBo (fun _ => True) Try.underlying58 cells4 (fun n cs d p hl hd hbd => ?_) h hb
  obtain ⟨b, e0, _⟩ := DataW.trod_bool Try.underlying4 hd
  exact ⟨b, by rw [e0]; rfl, trivial⟩

end opened
end Go.Proofs.Ytcecdklgiocbaaa
