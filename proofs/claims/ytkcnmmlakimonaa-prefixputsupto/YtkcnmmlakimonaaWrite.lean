/-
  The closures that put what a flag stands for, and the function that puts part by part.
-/
import Derived.Test.YtkcnmmlakimonaaResp
namespace Go.Proofs.Ytkcnmmlakimonaa
open Go.RowKit
set_option maxRecDepth 100000
set_option linter.unusedVariables false
set_option linter.unusedSimpArgs false

def trB (T : List Int) : List Int × Int := if T.length = 16 then (T, 0) else ([], 1)

abbrev Wr := List Int × Int × Int
def wr3 (acc : List Int) (fl : Int) : Wr := (acc, fl, 0)
def wr2 (es : List En) (acc : List Int) (fl : Int) : Wr := if es.length = 0 then wr3 acc fl else if (listB (keyB valueB) es).2 = 0 then wr3 (acc ++ (listB (keyB valueB) es).1) (fl + 4) else ([], 0, (listB (keyB valueB) es).2)
def wr1 (ws : List ByteArray) (es : List En) (acc : List Int) (fl : Int) : Wr := if ws.length = 0 then wr2 es acc fl else if (listB textB ws).2 = 0 then wr2 es (acc ++ (listB textB ws).1) (fl + 8) else ([], 0, (listB textB ws).2)
def wr0 (x : Pre) : Wr := if x.1.length = 0 then wr1 x.2.1 x.2.2 [] 0 else if (trB x.1).2 = 0 then wr1 x.2.1 x.2.2 ([] ++ (trB x.1).1) (0 + 2) else ([], 0, (trB x.1).2)

/-- What is asked of a prefix that is put: no text, no value too long for memory. -/
def Fit7 (x : Pre) : Prop := (∀ s ∈ x.2.1, s.size ≤ maxLen) ∧ (∀ y ∈ x.2.2, y.1.size ≤ maxLen ∧ y.2.2.size ≤ 1048576) ∧ x.2.2.length ≤ 50

theorem entry_len (x : En) (h : x.2.2.size ≤ 1048576) : (keyB valueB x).1.length ≤ 1114117 := by
  have h1 := keyB_len valueB x
  have h2 : (valueB x.2).1.length ≤ 4 + x.2.2.size := by
    unfold valueB
    split
    · simp
    · split
      · simp
      · split
        · rw [List.length_append, putL_length, sNums_length]; omega
        · simp
  omega

theorem entries_len (es : List En) (h : ∀ y ∈ es, y.1.size ≤ maxLen ∧ y.2.2.size ≤ 1048576) (hl : es.length ≤ 50) : (listB (keyB valueB) es).1.length ≤ 55705852 := by
  have h1 := listB_len (keyB valueB) 1114117 es (fun x hx => entry_len x (h x hx).2)
  have h2 : es.length * 1114117 ≤ 50 * 1114117 := Nat.mul_le_mul_right _ hl
  omega

theorem centries {w : World} {a : Option Addr} {len cap : Nat} {es : List En} (h : View 3 VE w a len cap es) (hx : ∀ y ∈ es, y.1.size ≤ maxLen ∧ y.2.2.size ≤ 1048576) (hl : es.length ≤ 50) {Y : List Int × Int} (hY : Y = listB (keyB valueB) es) :
    Calls Try.prog 42 #[.slice a len cap] w fun e w' => ∃ a cp, e = .returned (.tuple #[.slice a Y.1.length cp, .int .i64 Y.2]) ∧ Hid (Put w' w.heap.size a cp Y.1) ∧ Below w.heap.size w w' := by
  have h1 := h.1
  have h2 : len * 1114117 ≤ 50 * 1114117 := Nat.mul_le_mul_right _ (by omega)
  exact entries_any h (fun x hx' => ⟨(hx x hx').1, by have := (hx x hx').2; omega⟩) 1114117 (fun x hx' => entry_len x (hx x hx').2) (by omega) hY

/-- The contract of the closure that puts a tracing number. -/
theorem ptrac {w : World} {bx : Nat} {t : Option Addr} {lt ct : Nat} {y1 y2 : Value} (hbx : w.heap[bx]? = some (.cells #[.slice t lt ct, y1, y2] 27 (0, 0))) {T : List Int} (h : IsB w t lt ct T) {X : List Int × Int} (hX : X = trB T) :
    Calls Try.prog 38 #[.pointer (some ⟨bx, 0, none⟩)] w fun e w' => ∃ a cp, e = .returned (.tuple #[.slice a X.1.length cp, .int .i64 X.2]) ∧ Hid (IsB w' a X.1.length cp X.1) ∧ Hid (Below w.heap.size w w') := by
  obtain ⟨k0, k1, k2, _⟩ := three_cells hbx
  have H : Hid (IsB w t lt ct T) := h
  have hl := h.1
  clear h hbx
  by_cases he : lt = 16
  · have HX : Hid (X = (T, 0)) := by
      show _ = _
      rw [hX, trB, if_pos (by omega)]
    have t0 : ((lt : Int) == 16) = true := by simp; omega
    have HL : Hid (T.length = lt) := hl
    clear hX hl he
    go_enter Try.func38, Try.ntmps38
    go_wp2_with fail
    go_ret2
    exact ⟨t, ct, by rw [HX.out, HL.out]; rfl, by rw [HX.out]; simp only; rw [HL.out]; exact H, Below.refl _ _⟩
  · have HX : Hid (X = ([], 1)) := by
      show _ = _
      rw [hX, trB, if_neg (by omega)]
    have t0 : ((lt : Int) == 16) = false := by simp; omega
    clear hX hl he
    go_enter Try.func38, Try.ntmps38
    go_wp2_with fail
    go_ret2
    exact ⟨none, 0, by rw [HX.out]; rfl, by rw [HX.out]; exact isB_nil _, Below.refl _ _⟩

theorem pwarn {w : World} {bx : Nat} {v1 : Option Addr} {l1 c1 : Nat} {y0 y2 : Value} (hbx : w.heap[bx]? = some (.cells #[y0, .slice v1 l1 c1, y2] 27 (0, 0))) {ws : List ByteArray} (h : View 1 VS w v1 l1 c1 ws) (hs : ∀ s ∈ ws, s.size ≤ maxLen) {X : List Int × Int} (hX : X = listB textB ws) :
    Calls Try.prog 39 #[.pointer (some ⟨bx, 0, none⟩)] w fun e w' => ∃ a cp, e = .returned (.tuple #[.slice a X.1.length cp, .int .i64 X.2]) ∧ Hid (IsB w' a X.1.length cp X.1) ∧ Hid (Below w.heap.size w w') := by
  obtain ⟨k0, k1, k2, _⟩ := three_cells hbx
  have H : Hid (View 1 VS w v1 l1 c1 ws) := h
  have HS : Hid (∀ s ∈ ws, s.size ≤ maxLen) := hs
  have HX : Hid (X = listB textB ws) := hX
  clear h hbx hs hX
  go_enter Try.func39, Try.ntmps39
  go_wp2_with fail
  refine (texts_any H.out HS.out HX.out).mono ?_
  rintro e w1 ⟨a, cp, rfl, HP, hB⟩
  go_wp2_with fail
  go_ret2
  exact ⟨a, cp, rfl, HP.out.2, hB⟩

theorem pload {w : World} {bx : Nat} {v2 : Option Addr} {l2 c2 : Nat} {y0 y1 : Value} (hbx : w.heap[bx]? = some (.cells #[y0, y1, .slice v2 l2 c2] 27 (0, 0))) {es : List En} (h : View 3 VE w v2 l2 c2 es) (hs : ∀ y ∈ es, y.1.size ≤ maxLen ∧ y.2.2.size ≤ 1048576) (hl : es.length ≤ 50) {X : List Int × Int} (hX : X = listB (keyB valueB) es) :
    Calls Try.prog 41 #[.pointer (some ⟨bx, 0, none⟩)] w fun e w' => ∃ a cp, e = .returned (.tuple #[.slice a X.1.length cp, .int .i64 X.2]) ∧ Hid (IsB w' a X.1.length cp X.1) ∧ Hid (Below w.heap.size w w') := by
  obtain ⟨k0, k1, k2, _⟩ := three_cells hbx
  have H : Hid (View 3 VE w v2 l2 c2 es) := h
  have HS : Hid (∀ y ∈ es, y.1.size ≤ maxLen ∧ y.2.2.size ≤ 1048576) := hs
  have HL : Hid (es.length ≤ 50) := hl
  have HX : Hid (X = listB (keyB valueB) es) := hX
  clear h hbx hs hX hl
  go_enter Try.func41, Try.ntmps41
  go_wp2_with fail
  refine (centries H.out HS.out HL.out HX.out).mono ?_
  rintro e w1 ⟨a, cp, rfl, HP, hB⟩
  go_wp2_with fail
  go_ret2
  exact ⟨a, cp, rfl, HP.out.2, hB⟩

/-- The cells of the row of three parts that are put. -/
theorem nine_cells {w : World} {g : Nat} {x0 x1 x2 x3 x4 x5 x6 x7 x8 : Value} {t : TypeId} (h : w.heap[g]? = some (.cells #[x0, x1, x2, x3, x4, x5, x6, x7, x8] t (0, 0))) :
    w.cell? ⟨g, 0, none⟩ = some x0 ∧ w.cell? ⟨g, 1, none⟩ = some x1 ∧ w.cell? ⟨g, 2, none⟩ = some x2 ∧ w.cell? ⟨g, 3, none⟩ = some x3 ∧ w.cell? ⟨g, 4, none⟩ = some x4 ∧ w.cell? ⟨g, 5, none⟩ = some x5 ∧ w.cell? ⟨g, 6, none⟩ = some x6 ∧ w.cell? ⟨g, 7, none⟩ = some x7 ∧ w.cell? ⟨g, 8, none⟩ = some x8 := by
  refine ⟨?_, ?_, ?_, ?_, ?_, ?_, ?_, ?_, ?_⟩ <;> simp [World.cell?, h]

def puts3 (lt l1 l2 b1 b2 b3 : Nat) : Array Value := #[.int .u8 2, .int .i64 lt, .func (.func 38) #[] #[.pointer (some ⟨b1, 0, none⟩)], .int .u8 8, .int .i64 l1, .func (.func 39) #[] #[.pointer (some ⟨b2, 0, none⟩)], .int .u8 4, .int .i64 l2, .func (.func 41) #[] #[.pointer (some ⟨b3, 0, none⟩)]]

/-- The parts to be put lie in memory, each with its own copy of the prefix. -/
def LiesP (w : World) (t : Option Addr) (lt ct : Nat) (v1 : Option Addr) (l1 c1 : Nat) (v2 : Option Addr) (l2 c2 : Nat) (g b1 b2 b3 : Nat) : Prop :=
  w.heap[g]? = some (.cells (puts3 lt l1 l2 b1 b2 b3) 66 (0, 0)) ∧ w.heap[b1]? = some (.cells #[.slice t lt ct, .slice v1 l1 c1, .slice v2 l2 c2] 27 (0, 0)) ∧ w.heap[b2]? = some (.cells #[.slice t lt ct, .slice v1 l1 c1, .slice v2 l2 c2] 27 (0, 0)) ∧ w.heap[b3]? = some (.cells #[.slice t lt ct, .slice v1 l1 c1, .slice v2 l2 c2] 27 (0, 0))

theorem LiesP.old {w W : World} {t : Option Addr} {lt ct : Nat} {v1 : Option Addr} {l1 c1 : Nat} {v2 : Option Addr} {l2 c2 : Nat} {g b1 b2 b3 : Nat} (h : LiesP w t lt ct v1 l1 c1 v2 l2 c2 g b1 b2 b3) (hB : Below w.heap.size w W) : LiesP W t lt ct v1 l1 c1 v2 l2 c2 g b1 b2 b3 :=
  ⟨blk_old h.1 hB, blk_old h.2.1 hB, blk_old h.2.2.1 hB, blk_old h.2.2.2 hB⟩

/-- append of bytes onto a slice that owns its row: and what lies in other blocks stays. -/
theorem append_bytes_run2 {w : World} {base : Nat} {v : Value} {n : Nat} {X : List Int} (hown : OwnB w base v n X) {xa : Option Addr} {len cap : Nat} {zs : List Int} (hB : IsB w xa len cap zs) (hbd : n + len ≤ 140737488355328) (hbase : base ≤ w.heap.size) (ty : TypeId) :
    ∃ v' w', (Builtin.append_ #[22, 22] ty #[v, .slice xa len cap]).run Try.prog w = .ok v' w' ∧ OwnB w' base v' (n + len) (X ++ zs) ∧ Below base w w' ∧ ∀ k, k < w.heap.size → v.ownBlock ≠ some k → w'.heap[k]? = w.heap[k]? := by
  obtain ⟨i0, hi, hz0, hz1, hz2⟩ := info_parts Try.info5
  cases xa with
  | none =>
    obtain ⟨h1, h2, h3, h4, h5⟩ := hB
    obtain ⟨rfl, rfl⟩ := h4 rfl
    obtain rfl : zs = [] := List.eq_nil_of_length_eq_zero h1
    refine ⟨v, w, run_append_owned_none (P := Try.prog) (w := w) base 22 ty 5 i0 1 Try.underlying22 hi v n _ hown, ?_, Below.refl _ _, fun _ _ _ => rfl⟩
    rw [List.append_nil]; exact hown
  | some x =>
    have hl : (zs.map (Value.int .u8)).length = len * 1 := by rw [List.length_map, hB.1, Nat.mul_one]
    obtain ⟨v', w', hr, h2, h3, h4⟩ := run_append_own (P := Try.prog) w base 22 ty 5 i0 (.int .u8 0) 1 1 Try.underlying22 hi hz0 hz1 hz2 rfl (by decide) v n _ hown x len cap _ hl hB.news (bytes_one zs) (by unfold maxLen; omega) (by omega) hbase
    exact ⟨v', w', hr, OwnB.join h2 rfl, (Below.refl _ _).grown h3 hbase hown.block, fun k hk hn => h3.block k hk (fun e => hn e.symm)⟩

theorem wpList_append_bytes2 {ops : Array Oper} {rest : List Oper} {o : Oper} {a : Act} {w : World} {Q : Exit → Act → World → Prop} (hgd : o.guard = none) (s x : Operand)
    (ho : o.op = .call { callee := .builtin .append, args := #[s, x], argTypes := #[22, 22] })
    {base : Nat} {v : Value} {n : Nat} {X : List Int} (hs : a.eval s = v) (hown : OwnB w base v n X) {xa : Option Addr} {len cap : Nat} {zs : List Int} (hx : a.eval x = .slice xa len cap) (hB : IsB w xa len cap zs) (hbd : n + len ≤ 140737488355328) (hbase : base ≤ w.heap.size)
    (h : ∀ v' w', OwnB w' base v' (n + len) (X ++ zs) → Below base w w' → (∀ k, k < w.heap.size → v.ownBlock ≠ some k → w'.heap[k]? = w.heap[k]?) → wpList Try.prog ops Q rest (a.put o.dst v') w') : wpList Try.prog ops Q (o :: rest) a w := by
  refine wpList_plain hgd fun K hK => ?_
  obtain ⟨v', w', hr, h2, h3, h4⟩ := append_bytes_run2 hown hB hbd hbase o.type
  unfold Oper.wp
  simp [execOp, ho, resolve, invoke, builtin, hs, hx, hr, Result.andThen]
  exact hK _ _ (h v' w' h2 h3 h4)

set_option maxHeartbeats 4000000 in
theorem write_any {w : World} {t : Option Addr} {lt ct : Nat} {v1 : Option Addr} {l1 c1 : Nat} {v2 : Option Addr} {l2 c2 : Nat} {g b1 b2 b3 : Nat} (hL : LiesP w t lt ct v1 l1 c1 v2 l2 c2 g b1 b2 b3) {x : Pre} (hV : PV w t lt ct v1 l1 c1 v2 l2 c2 x) (hF : Fit7 x) {Y : Wr} (hY : Y = wr0 x) :
    Calls Try.prog 24 #[.slice (some ⟨g, 0, none⟩) 3 3] w fun e w' => ∃ a cp, e = .returned (.tuple #[.slice a Y.1.length cp, .int .u8 Y.2.1, .int .i64 Y.2.2]) ∧ Hid (Put w' w.heap.size a cp Y.1) ∧ Hid (Below w.heap.size w w') := by
  obtain ⟨T, ws, es⟩ := x
  have HL : Hid (LiesP w t lt ct v1 l1 c1 v2 l2 c2 g b1 b2 b3) := hL
  have HV : Hid (PV w t lt ct v1 l1 c1 v2 l2 c2 (T, ws, es)) := hV
  have HF : Hid (Fit7 (T, ws, es)) := hF
  have HY : Hid (Y = wr0 (T, ws, es)) := hY
  have hT : T.length = lt := hV.1.1
  have hW : ws.length = l1 := hV.2.1.1
  have hE : es.length = l2 := hV.2.2.1
  clear hL hV hF hY
  go_enter Try.func24, Try.ntmps24
  go_wp2_with fail
  go_loopw [5, 6, 13] (fun b fl i wr => ∃ (k : Nat) (n : Int) (acc : List Int), k ≤ 3 ∧ i = .int .i64 (k : Nat) ∧ fl = .int .u8 n ∧ Hid (OwnB wr w.heap.size b acc.length acc) ∧ Hid (∀ j : Nat, 0 ≤ acc[j]?.getD 0 ∧ acc[j]?.getD 0 ≤ 255) ∧ Hid (Below w.heap.size w wr) ∧
      Hid ((k = 0 ∧ n = 0 ∧ acc = [] ∧ Y = wr0 (T, ws, es)) ∨ (k = 1 ∧ (n = 0 ∨ n = 2) ∧ acc.length ≤ 16 ∧ Y = wr1 ws es acc n) ∨ (k = 2 ∧ (n = 0 ∨ n = 2 ∨ n = 8 ∨ n = 10) ∧ acc.length ≤ 4294967314 ∧ Y = wr2 es acc n) ∨ (k = 3 ∧ Y = wr3 acc n))) (fun _ _ i _ => 3 - (intOf i).toNat)
  case atStart => exact ⟨0, 0, [], by omega, rfl, rfl, World.ownsRow_nil _ _ _ _, fun j => by simp, Below.refl _ _, .inl ⟨rfl, rfl, rfl, HY.out⟩⟩
  case round =>
    obtain ⟨k, n, acc, hk, rfl, rfl, HO, HR, HB, HS⟩ := hrel
    have hlies : LiesP wr t lt ct v1 l1 c1 v2 l2 c2 g b1 b2 b3 := HL.out.old HB.out
    have HLI : Hid (LiesP wr t lt ct v1 l1 c1 v2 l2 c2 g b1 b2 b3) := hlies
    obtain ⟨q0, q1, q2, q3, q4, q5, q6, q7, q8⟩ := nine_cells hlies.1
    have hbs : w.heap.size ≤ wr.heap.size := HB.out.size
    have HVR : Hid (PV wr t lt ct v1 l1 c1 v2 l2 c2 (T, ws, es)) := HV.out.old HB.out
    clear hlies
    rcases HS.out with ⟨rfl, rfl, rfl, hYk⟩ | ⟨rfl, hn, hal, hYk⟩ | ⟨rfl, hn, hal, hYk⟩ | ⟨rfl, hYk⟩
    · by_cases h0 : lt = 0
      · subst h0
        rw [wr0, if_pos hT] at hYk
        have HNN : Hid (Y = wr1 ws es [] 0) := hYk
        clear hYk
        go_wp2_with fail
        go_roundw
        case rel => exact ⟨1, 0, [], by omega, by go_num, rfl, HO.out.old (below_one wr _), HR, HB.out.alloc hbs _, .inr (.inl ⟨rfl, .inl rfl, by simp, HNN.out⟩)⟩
        case measure => simp [intOf]
      · obtain ⟨X, hX⟩ : ∃ X, X = trB T := ⟨_, rfl⟩
        rw [wr0, if_neg (show ¬ T.length = 0 by omega), ← hX] at hYk
        have HX : Hid (X = trB T) := hX
        have HYK : Hid (Y = if X.2 = 0 then wr1 ws es ([] ++ X.1) (0 + 2) else ([], 0, X.2)) := hYk
        have t1 : ((lt : Int) == 0) = false := by simp; omega
        have HXL : Hid (X.1.length ≤ 16) := by show _ ≤ _; rw [hX]; unfold trB; split <;> simp; omega
        clear hX hYk
        go_wp2_with fail
        refine (ptrac (blk_old HLI.out.2.1 (below_one wr _)) (HVR.out.1.old (below_one wr _)) HX.out).mono ?_
        rintro e w2 ⟨a2, cp2, rfl, HI2, HB2⟩
        have HBW : Hid (Below wr.heap.size wr w2) := (below_one wr _).trans (HB2.out.mono (by simp))
        by_cases he : X.2 = 0
        · have HN := HYK.out
          rw [if_pos he] at HN
          have HNN : Hid (Y = wr1 ws es ([] ++ X.1) (0 + 2)) := HN
          have hc0 : w2.cell? ⟨wr.heap.size, 0, none⟩ = some (.int .u8 2) := by rw [HB2.out.cell (by simp)]; simp [go_sem]
          have hor : bits .or .u8 0 2 = 0 + 2 := by decide
          have HO2 : Hid (OwnB w2 w.heap.size u5 ([] : List Int).length []) := HO.out.old HBW.out
          have HBD : Hid (([] : List Int).length + X.1.length ≤ 140737488355328) := by
            show _ ≤ _
            have := HXL.out
            simp only [List.length_nil]; omega
          have hs2 : w.heap.size ≤ w2.heap.size := Nat.le_trans hbs HBW.out.size
          have hsw : wr.heap.size < w2.heap.size := by have := HB2.out.size; simp at this; omega
          clear HN
          rw [he]
          go_wp2_with (at_builtin; refine wpList_append_bytes2 rfl (.tmp 29) (.tmp 30) rfl rfl HO2.out rfl HI2.out HBD.out hs2 ?_)
          intro v3 w3 ho3 hB3 hfar
          have HO3 : Hid (OwnB w3 w.heap.size v3 ([] ++ X.1).length ([] ++ X.1)) := by
            show OwnB _ _ _ _ _
            first | (rw [List.length_append]; exact ho3) | (simpa using ho3)
          have HR3 : Hid (∀ j : Nat, 0 ≤ ([] ++ X.1)[j]?.getD 0 ∧ ([] ++ X.1)[j]?.getD 0 ≤ 255) := range_append HR.out HI2.out.range
          have HB3 : Hid (Below w.heap.size w w3) := (HB.out.trans (HBW.out.mono hbs)).trans hB3
          have hc3 : w3.cell? ⟨wr.heap.size, 0, none⟩ = some (.int .u8 2) := by rw [World.cell?_of_block (w := w2) (w' := w3) (a := ⟨wr.heap.size, 0, none⟩) (hfar _ hsw (fun e => Nat.lt_irrefl _ (World.ownsRow.lt HO.out _ e).2))]; exact hc0
          clear ho3 hfar
          go_wp2_with fail
          go_roundw
          case rel => exact ⟨1, 0 + 2, [] ++ X.1, by omega, by go_num, by first | rfl | rw [hor], HO3, HR3, HB3, .inr (.inl ⟨rfl, .inr rfl, by rw [List.length_append]; have := HXL.out; simp only [List.length_nil]; omega, HNN.out⟩)⟩
          case measure => simp [intOf]
        · have HN := HYK.out
          rw [if_neg he] at HN
          have t2 : (X.2 == 0) = false := by simpa using he
          have HNN : Hid (Y = ([], 0, X.2)) := HN
          clear HN he
          go_wp2_with fail
          go_ret3
          exact ⟨none, 0, by rw [HNN.out]; rfl, by rw [HNN.out]; exact put_nil _ _, HB.out.trans (HBW.out.mono hbs)⟩
    · by_cases h0 : l1 = 0
      · subst h0
        rw [wr1, if_pos hW] at hYk
        have HNN : Hid (Y = wr2 es acc n) := hYk
        clear hYk
        go_wp2_with fail
        go_roundw
        case rel => exact ⟨2, n, acc, by omega, by go_num, rfl, HO.out.old (below_one wr _), HR, HB.out.alloc hbs _, .inr (.inr (.inl ⟨rfl, by omega, by omega, HNN.out⟩))⟩
        case measure => simp [intOf]
      · obtain ⟨X, hX⟩ : ∃ X, X = listB textB ws := ⟨_, rfl⟩
        rw [wr1, if_neg (show ¬ ws.length = 0 by omega), ← hX] at hYk
        have HX : Hid (X = listB textB ws) := hX
        have HYK : Hid (Y = if X.2 = 0 then wr2 es (acc ++ X.1) (n + 8) else ([], 0, X.2)) := hYk
        have t1 : ((l1 : Int) == 0) = false := by simp; omega
        have HXL : Hid (X.1.length ≤ 4294967297) := by show _ ≤ _; rw [hX]; exact listB_textB_len ws
        clear hX hYk
        go_wp2_with fail
        refine (pwarn (blk_old HLI.out.2.2.1 (below_one wr _)) (HVR.out.2.1.old stays_s (below_one wr _)) HF.out.1 HX.out).mono ?_
        rintro e w2 ⟨a2, cp2, rfl, HI2, HB2⟩
        have HBW : Hid (Below wr.heap.size wr w2) := (below_one wr _).trans (HB2.out.mono (by simp))
        by_cases he : X.2 = 0
        · have HN := HYK.out
          rw [if_pos he] at HN
          have HNN : Hid (Y = wr2 es (acc ++ X.1) (n + 8)) := HN
          have hc0 : w2.cell? ⟨wr.heap.size, 0, none⟩ = some (.int .u8 8) := by rw [HB2.out.cell (by simp)]; simp [go_sem]
          have hor : bits .or .u8 n 8 = n + 8 := by rcases hn with rfl | rfl <;> decide
          have HO2 : Hid (OwnB w2 w.heap.size u5 (acc : List Int).length acc) := HO.out.old HBW.out
          have HBD : Hid ((acc : List Int).length + X.1.length ≤ 140737488355328) := by
            show _ ≤ _
            have := HXL.out
            omega
          have hs2 : w.heap.size ≤ w2.heap.size := Nat.le_trans hbs HBW.out.size
          have hsw : wr.heap.size < w2.heap.size := by have := HB2.out.size; simp at this; omega
          clear HN
          rw [he]
          go_wp2_with (at_builtin; refine wpList_append_bytes2 rfl (.tmp 29) (.tmp 30) rfl rfl HO2.out rfl HI2.out HBD.out hs2 ?_)
          intro v3 w3 ho3 hB3 hfar
          have HO3 : Hid (OwnB w3 w.heap.size v3 (acc ++ X.1).length (acc ++ X.1)) := by
            show OwnB _ _ _ _ _
            first | (rw [List.length_append]; exact ho3) | (simpa using ho3)
          have HR3 : Hid (∀ j : Nat, 0 ≤ (acc ++ X.1)[j]?.getD 0 ∧ (acc ++ X.1)[j]?.getD 0 ≤ 255) := range_append HR.out HI2.out.range
          have HB3 : Hid (Below w.heap.size w w3) := (HB.out.trans (HBW.out.mono hbs)).trans hB3
          have hc3 : w3.cell? ⟨wr.heap.size, 0, none⟩ = some (.int .u8 8) := by rw [World.cell?_of_block (w := w2) (w' := w3) (a := ⟨wr.heap.size, 0, none⟩) (hfar _ hsw (fun e => Nat.lt_irrefl _ (World.ownsRow.lt HO.out _ e).2))]; exact hc0
          clear ho3 hfar
          go_wp2_with fail
          go_roundw
          case rel => exact ⟨2, n + 8, acc ++ X.1, by omega, by go_num, by first | rfl | rw [hor], HO3, HR3, HB3, .inr (.inr (.inl ⟨rfl, by omega, by rw [List.length_append]; have := HXL.out; omega, HNN.out⟩))⟩
          case measure => simp [intOf]
        · have HN := HYK.out
          rw [if_neg he] at HN
          have t2 : (X.2 == 0) = false := by simpa using he
          have HNN : Hid (Y = ([], 0, X.2)) := HN
          clear HN he
          go_wp2_with fail
          go_ret3
          exact ⟨none, 0, by rw [HNN.out]; rfl, by rw [HNN.out]; exact put_nil _ _, HB.out.trans (HBW.out.mono hbs)⟩
    · by_cases h0 : l2 = 0
      · subst h0
        rw [wr2, if_pos hE] at hYk
        have HNN : Hid (Y = wr3 acc n) := hYk
        clear hYk
        go_wp2_with fail
        go_roundw
        case rel => exact ⟨3, n, acc, by omega, by go_num, rfl, HO.out.old (below_one wr _), HR, HB.out.alloc hbs _, .inr (.inr (.inr ⟨rfl, HNN.out⟩))⟩
        case measure => simp [intOf]
      · obtain ⟨X, hX⟩ : ∃ X, X = listB (keyB valueB) es := ⟨_, rfl⟩
        rw [wr2, if_neg (show ¬ es.length = 0 by omega), ← hX] at hYk
        have HX : Hid (X = listB (keyB valueB) es) := hX
        have HYK : Hid (Y = if X.2 = 0 then wr3 (acc ++ X.1) (n + 4) else ([], 0, X.2)) := hYk
        have t1 : ((l2 : Int) == 0) = false := by simp; omega
        have HXL : Hid (X.1.length ≤ 55705852) := by show _ ≤ _; rw [hX]; exact entries_len es HF.out.2.1 HF.out.2.2
        clear hX hYk
        go_wp2_with fail
        refine (pload (blk_old HLI.out.2.2.2 (below_one wr _)) (HVR.out.2.2.old stays_e (below_one wr _)) HF.out.2.1 HF.out.2.2 HX.out).mono ?_
        rintro e w2 ⟨a2, cp2, rfl, HI2, HB2⟩
        have HBW : Hid (Below wr.heap.size wr w2) := (below_one wr _).trans (HB2.out.mono (by simp))
        by_cases he : X.2 = 0
        · have HN := HYK.out
          rw [if_pos he] at HN
          have HNN : Hid (Y = wr3 (acc ++ X.1) (n + 4)) := HN
          have hc0 : w2.cell? ⟨wr.heap.size, 0, none⟩ = some (.int .u8 4) := by rw [HB2.out.cell (by simp)]; simp [go_sem]
          have hor : bits .or .u8 n 4 = n + 4 := by rcases hn with rfl | rfl | rfl | rfl <;> decide
          have HO2 : Hid (OwnB w2 w.heap.size u5 (acc : List Int).length acc) := HO.out.old HBW.out
          have HBD : Hid ((acc : List Int).length + X.1.length ≤ 140737488355328) := by
            show _ ≤ _
            have := HXL.out
            omega
          have hs2 : w.heap.size ≤ w2.heap.size := Nat.le_trans hbs HBW.out.size
          have hsw : wr.heap.size < w2.heap.size := by have := HB2.out.size; simp at this; omega
          clear HN
          rw [he]
          go_wp2_with (at_builtin; refine wpList_append_bytes2 rfl (.tmp 29) (.tmp 30) rfl rfl HO2.out rfl HI2.out HBD.out hs2 ?_)
          intro v3 w3 ho3 hB3 hfar
          have HO3 : Hid (OwnB w3 w.heap.size v3 (acc ++ X.1).length (acc ++ X.1)) := by
            show OwnB _ _ _ _ _
            first | (rw [List.length_append]; exact ho3) | (simpa using ho3)
          have HR3 : Hid (∀ j : Nat, 0 ≤ (acc ++ X.1)[j]?.getD 0 ∧ (acc ++ X.1)[j]?.getD 0 ≤ 255) := range_append HR.out HI2.out.range
          have HB3 : Hid (Below w.heap.size w w3) := (HB.out.trans (HBW.out.mono hbs)).trans hB3
          have hc3 : w3.cell? ⟨wr.heap.size, 0, none⟩ = some (.int .u8 4) := by rw [World.cell?_of_block (w := w2) (w' := w3) (a := ⟨wr.heap.size, 0, none⟩) (hfar _ hsw (fun e => Nat.lt_irrefl _ (World.ownsRow.lt HO.out _ e).2))]; exact hc0
          clear ho3 hfar
          go_wp2_with fail
          go_roundw
          case rel => exact ⟨3, n + 4, acc ++ X.1, by omega, by go_num, by first | rfl | rw [hor], HO3, HR3, HB3, .inr (.inr (.inr ⟨rfl, HNN.out⟩))⟩
          case measure => simp [intOf]
        · have HN := HYK.out
          rw [if_neg he] at HN
          have t2 : (X.2 == 0) = false := by simpa using he
          have HNN : Hid (Y = ([], 0, X.2)) := HN
          clear HN he
          go_wp2_with fail
          go_ret3
          exact ⟨none, 0, by rw [HNN.out]; rfl, by rw [HNN.out]; exact put_nil _ _, HB.out.trans (HBW.out.mono hbs)⟩
    · have HNN : Hid (Y = wr3 acc n) := hYk
      clear hYk
      obtain ⟨a2, cp2, hv, hp⟩ := OwnB.put HO.out HR.out
      subst hv
      have HP : Hid (Put wr w.heap.size a2 cp2 acc) := hp
      clear hp
      go_wp2_with fail
      go_ret3
      exact ⟨a2, cp2, by rw [HNN.out]; rfl, by rw [HNN.out]; exact HP, HB⟩
end Go.Proofs.Ytkcnmmlakimonaa
