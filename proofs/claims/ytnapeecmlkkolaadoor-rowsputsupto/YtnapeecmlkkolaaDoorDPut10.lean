/-
  The document's own Put of a table.
-/
import Derived.Test.YtnapeecmlkkolaaDoorMay10
import Derived.Test.YtnapeecmlkkolaaDoorRefPuts
import Derived.Test.YtnapeecmlkkolaaDoorRc10
namespace Go.Proofs.YtnapeecmlkkolaaDoor
open Go.RowKit
set_option maxRecDepth 100000
set_option linter.unusedVariables false
set_option linter.unusedSimpArgs false

theorem rvalue_any (x : Vl) (w : World) (hsm : x.2.size ≤ 140737488351232) {B : BE} (hB : B = valueB x) :
    Calls Tryd.prog 37 #[.agg #[.int .i64 x.1, .string x.2]] w fun e w' => ∃ a cp, e = .returned (.tuple #[.slice a B.1.length cp, .int .i64 B.2]) ∧ Hid (IsB w' a B.1.length cp B.1) ∧ Below w.heap.size w w' := by
  obtain ⟨k, bs⟩ := x
  subst hB
  by_cases h0 : k = 0
  · subst h0
    refine (rvalue_null bs w).mono ?_
    rintro e w' ⟨v, rfl, ho, hB⟩
    obtain ⟨a', cp, rfl, hp⟩ := own_isB ho (four_range _ _ _ _ (by omega))
    exact ⟨a', cp, rfl, hp, hB⟩
  by_cases h1 : k = 1
  · subst h1
    refine (rvalue_unset bs w).mono ?_
    rintro e w' ⟨v, rfl, ho, hB⟩
    obtain ⟨a', cp, rfl, hp⟩ := own_isB ho (four_range _ _ _ _ (by omega))
    exact ⟨a', cp, rfl, hp, hB⟩
  by_cases h2 : k = 2
  · subst h2
    refine (rvalue_set bs w hsm).mono ?_
    rintro e w' ⟨v, rfl, ho, hB⟩
    obtain ⟨a', cp, rfl, hp⟩ := own_isB ho (range_append (putL_range _ _) (sNums_range bs))
    exact ⟨a', cp, rfl, hp, hB⟩
  · refine (rvalue_none k bs w h0 h1 h2).mono ?_
    rintro e w' ⟨rfl, hB⟩
    simp only [valueB, if_neg h0, if_neg h1, if_neg h2]
    exact ⟨none, 0, rfl, isB_nil _, hB⟩

/-- What has been put so far: v owns the bytes X; what is left is R, which costs W at most. -/
def DO (g : Nat) (w0 : World) (B R : BE) (W : Nat) (v : Value) (w : World) : Prop :=
  ∃ X : List Int, OwnB w g v X.length X ∧ Rng X ∧ Below g w0 w ∧ B = seqB (X, 0) R ∧ X.length + W ≤ 140737488355328

/-- What Put answers. -/
def DPut (w : World) (B : BE) (e : Ending) (w' : World) : Prop :=
  ∃ a cp, e = .returned (.tuple #[.slice a B.1.length cp, .int .i64 B.2]) ∧ Hid (IsB w' a B.1.length cp B.1) ∧ Below w.heap.size w w'

theorem dput_err {w w' : World} {B : BE} {c : Int} (h : B = ([], c)) (hB : Below w.heap.size w w') : DPut w B (.returned (.tuple #[.slice none 0 0, .int .i64 c])) w' :=
  ⟨none, 0, by rw [h]; rfl, by rw [h]; exact isB_nil _, hB⟩

theorem DO.low {g W : Nat} {w0 w : World} {B R : BE} {v : Value} (h : DO g w0 B R W v w) : Below g w0 w := by
  obtain ⟨X, _, _, h, _⟩ := h; exact h

/-- A part that can't be put. -/
theorem DO.bad {g W : Nat} {w0 w : World} {B C R : BE} {v : Value} (h : DO g w0 B (seqB C R) W v w) (hC : C.2 ≠ 0) : B = ([], C.2) := by
  obtain ⟨X, _, _, _, hE, _⟩ := h
  rw [hE, seqB_err R hC]
  exact seqB_no rfl hC

theorem DO.eq {g W W' : Nat} {w0 w : World} {B R R' : BE} {v : Value} (h : DO g w0 B R W v w) (hR : R = R') (hW : W' ≤ W) : DO g w0 B R' W' v w := by
  obtain ⟨X, h1, h2, h3, h4, h5⟩ := h
  exact ⟨X, h1, h2, h3, by rw [← hR]; exact h4, by omega⟩

theorem DO.new {g W : Nat} {w0 w w1 : World} {B R : BE} {v : Value} (h : DO g w0 B R W v w) (hg : g ≤ w0.heap.size) (hB : Below w.heap.size w w1) : DO g w0 B R W v w1 := by
  obtain ⟨X, h1, h2, h3, h4, h5⟩ := h
  exact ⟨X, h1.grown hB, h2, h3.trans (hB.mono (by have := h3.size; omega)), h4, h5⟩

/-- What an append makes of it. -/
def DA (g : Nat) (w0 : World) (B R : BE) (W : Nat) (v : Value) (w : World) (X : List Int) (n : Nat) (C : BE) : Prop :=
  ∀ v' w', OwnB w' g v' (n + C.1.length) (X ++ C.1) → Kept (fun k => v.ownBlock = some k) w w' → DO g w0 B R W v' w'

theorem DO.append {g W : Nat} {w0 w : World} {B C R : BE} {v : Value} {c : Nat} (h : DO g w0 B (seqB C R) (c + W) v w) (hg : g ≤ w0.heap.size) (hC : C.2 = 0) (hr : Rng C.1) (hc : C.1.length ≤ c) :
    ∃ (X : List Int) (n : Nat), OwnB w g v n X ∧ n + C.1.length ≤ 140737488355328 ∧ g ≤ w.heap.size ∧ DA g w0 B R W v w X n C := by
  obtain ⟨X, h1, h2, h3, h4, h5⟩ := h
  refine ⟨X, X.length, h1, by omega, by have := h3.size; omega, fun v' w' ho hK => ⟨X ++ C.1, by rw [List.length_append]; exact ho, range_append h2 hr, h3.trans (hK.below (by have := h3.size; omega) (fun k hk e => by have := h1.block k e; omega)), ?_, by rw [List.length_append]; omega⟩⟩
  rw [h4, ← seqB_assoc, seqB_ok (S := (X, 0)) rfl hC]

theorem DO.done {g W : Nat} {w w0 w' : World} {B : BE} {v : Value} (h : DO g w0 B ([], 0) W v w') (hw : Below w.heap.size w w0) (hg : w.heap.size ≤ g) : ∃ a l cp, v = .slice a l cp ∧ DPut w B (.returned (.tuple #[.slice a l cp, .int .i64 0])) w' := by
  obtain ⟨X, h1, h2, h3, h4, h5⟩ := h
  obtain ⟨a, cp, rfl, hp⟩ := own_isB h1 h2
  rw [seqB_ok (S := (X, 0)) rfl rfl, List.append_nil] at h4
  subst h4
  exact ⟨a, _, cp, rfl, a, cp, rfl, hp, hw.trans (h3.mono hg)⟩

theorem goQ_cons {α : Type} {f : α → BE} {xs : List α} {k : Nat} {x : α} (h : xs[k]? = some x) : goQ f (xs.drop k) = seqB (f x) (goQ f (xs.drop (k + 1))) := by rw [drop_cons h, goQ]

/-- A column's texts. -/
def txt (full : Bool) (c : Col) : List ByteArray := if full then [c.1, c.2.1, c.2.2.1] else [c.2.2.1]
theorem textB_nrm (s : ByteArray) : Nrm (textB s) := by
  unfold textB
  split
  · intro h; exact absurd rfl h
  · intro _; rfl
theorem colB_txt (n : Nat) (full : Bool) (c : Col) (R : BE) : seqB (colB n full c) R = seqB (goQ textB (txt full c)) (seqB (putR n c.2.2.2) R) := by
  cases full with
  | true =>
    show seqB (seqB (seqB (textB c.1) (textB c.2.1)) (seqB (textB c.2.2.1) (putR n c.2.2.2))) R = seqB (seqB (textB c.1) (seqB (textB c.2.1) (seqB (textB c.2.2.1) ([], 0)))) (seqB (putR n c.2.2.2) R)
    rw [seqB_unit (textB_nrm _)]
    simp only [seqB_assoc]
  | false =>
    show seqB (seqB ([], 0) (seqB (textB c.2.2.1) (putR n c.2.2.2))) R = seqB (seqB (textB c.2.2.1) ([], 0)) (seqB (putR n c.2.2.2) R)
    rw [seqB_unit (textB_nrm _), unit_seqB (nrm_seq _ _), seqB_assoc]
theorem textB_rng (s : ByteArray) : Rng (textB s).1 := by
  unfold textB
  split
  · exact range_append (putL_range _ _) (sNums_range s)
  · exact rng_nil
theorem colsFrom_at {n : Nat} {g : Bool} {xs : List Col} {k : Nat} {c : Col} (h : xs[k]? = some c) : colsFrom n g k (xs.drop k) = seqB (colB n (decide (k = 0) || !g) c) (colsFrom n g (k + 1) (xs.drop (k + 1))) := by rw [drop_cons h, colsFrom]
theorem valueB_rng (x : Vl) : Rng (valueB x).1 := by
  unfold valueB
  split
  · exact four_range _ _ _ _ (by omega)
  · split
    · exact four_range _ _ _ _ (by omega)
    · split
      · exact range_append (putL_range _ _) (sNums_range _)
      · exact rng_nil

/-- An append of what a call has made. -/
theorem DO.onto {g W : Nat} {w0 w w1 : World} {B C R : BE} {v : Value} {c : Nat} (h : DO g w0 B (seqB C R) (c + W) v w) (hg : g ≤ w0.heap.size) (hB : Below w.heap.size w w1) (hC : C.2 = 0) {a : Option Addr} {len cp : Nat} (hl : C.1.length = len) (hI : IsB w1 a len cp C.1) (hc : C.1.length ≤ c) :
    ∃ (X : List Int) (n : Nat), Hid (OwnB w1 g v n X) ∧ Hid (n + len ≤ 140737488355328) ∧ Hid (g ≤ w1.heap.size) ∧ Hid (∀ v' w', OwnB w' g v' (n + len) (X ++ C.1) → Kept (fun k => v.ownBlock = some k) w1 w' → DO g w0 B R W v' w') := by
  obtain ⟨X, n, h1, h2, h3, h4⟩ := (h.new hg hB).append hg hC hI.range hc
  rw [hl] at h2
  refine ⟨X, n, h1, h2, h3, fun v' w' ho hK => h4 v' w' (by rw [hl]; exact ho) hK⟩

theorem putL_few {f : Int} (h : 0 ≤ f ∧ f ≤ 7) : putL f 4 = [0, 0, 0, f] := by
  obtain ⟨h0, h1⟩ := h
  have : f = 0 ∨ f = 1 ∨ f = 2 ∨ f = 3 ∨ f = 4 ∨ f = 5 ∨ f = 6 ∨ f = 7 := by omega
  rcases this with rfl | rfl | rfl | rfl | rfl | rfl | rfl | rfl <;> decide

theorem DO.start {w0 w : World} {g : Nat} {B R : BE} {W : Nat} {f : Int} (hf : 0 ≤ f ∧ f ≤ 7) (hB : Below g w0 w) (hg : g ≤ w0.heap.size) {k : Nat} (hk : w.heap.size = k) (hE : B = seqB (intB f) R) (hW : 4 + W ≤ 140737488355328) :
    DO g w0 B R W (.slice (some ⟨k, 0, none⟩) 4 4) (w.alloc (.cells #[.int .u8 0, .int .u8 0, .int .u8 0, .int .u8 f] 5)) := by
  have h1 := hB.size
  refine ⟨[0, 0, 0, f], own_four w 0 0 0 f g k hk (by omega), four_range _ _ _ _ (by omega), hB.alloc (by omega) _, ?_, hW⟩
  rw [hE, intB, putL_few hf]

theorem DO.own {g W : Nat} {w0 w : World} {B R : BE} {v : Value} (h : DO g w0 B R W v w) : ∀ k, v.ownBlock = some k → g ≤ k ∧ k < w.heap.size := by
  obtain ⟨X, h1, _⟩ := h
  exact fun k hk => World.ownsRow.lt h1 k hk
theorem DO.wt {g W : Nat} {w0 w : World} {B R : BE} {v : Value} (h : DO g w0 B R W v w) : W ≤ 140737488355328 := by
  obtain ⟨X, _, _, _, _, h⟩ := h; omega
theorem blk3 {w : World} {l : Nat} {s t n : ByteArray} (h : w.heap[l]? = some (.cells #[.string s, .string t, .string n] 9 (0, 0))) {i : Nat} {x : ByteArray} (hx : [s, t, n][i]? = some x) : w.cell? ⟨l, i, none⟩ = some (.string x) := by
  match i, hx with
  | 0, hx => simp at hx; subst hx; simp [World.cell?, h]
  | 1, hx => simp at hx; subst hx; simp [World.cell?, h]
  | 2, hx => simp at hx; subst hx; simp [World.cell?, h]
  | i + 3, hx => simp at hx

def fl1 (gl : Bool) (cl : Nat) : Int := if gl = true ∧ 0 < cl then 1 else 0
def fl2 (gl : Bool) (cl : Nat) (m : Bool) : Int := fl1 gl cl + if m = true then 2 else 0
theorem fl1_r (gl : Bool) (cl : Nat) : 0 ≤ fl1 gl cl ∧ fl1 gl cl ≤ 1 := by unfold fl1; split <;> omega
theorem fl2_r (gl : Bool) (cl : Nat) (m : Bool) : 0 ≤ fl2 gl cl m ∧ fl2 gl cl m ≤ 3 := by have := fl1_r gl cl; unfold fl2; split <;> omega
theorem fl3_e (gl : Bool) (cl : Nat) (m : Bool) (n : Int) : flagsN gl cl m n = fl2 gl cl m + if cl = 0 ∧ n ≠ 0 then 4 else 0 := rfl
theorem fl_odd (gl : Bool) (cl : Nat) (m : Bool) (n : Int) : (flagsN gl cl m n % 2 == 1) = (gl && decide (0 < cl)) := by
  rw [fl3_e]
  unfold fl2 fl1
  cases gl <;> cases m <;> by_cases h : cl = 0 <;> by_cases h2 : n = 0 <;> simp [h, h2, Nat.pos_iff_ne_zero]

set_option maxHeartbeats 8000000 in
theorem dput_any {F : Nat → Prop} {w : World} {cnt : Int} {L : List Col} {mo : Bool} {vk : Int} {vb : ByteArray} {Q : List (List Vl)} {ca : Option Addr} {cl cc : Nat} {ra : Option Addr} {rl rc : Nat}
    (h : DtS (25 + 1) F w L Q ca cl cc ra rl rc) (hi : -9223372036854775808 ≤ cnt ∧ cnt ≤ 9223372036854775807) (gl : Bool) (hsm : vb.size ≤ 140737488351232) (hsr : ∀ r ∈ Q, ∀ V ∈ r, V.2.size ≤ 140737488351232)
    (hbd : tabW 25 ((cnt, L, mo, (vk, vb), Q) : Tb) ≤ 140737488355328) {B : BE} (hB : B = putT 25 gl ((cnt, L, mo, (vk, vb), Q) : Tb)) :
    Calls Tryd.prog 18 #[.agg #[.int .i64 cnt, .slice ca cl cc, .bool mo, .int .i64 vk, .string vb, .slice ra rl rc], .bool gl] w fun e w' => DPut w B e w' := by
  obtain ⟨d, hd⟩ : ∃ d, d = (mayT ((cnt, L, mo, (vk, vb), Q) : Tb) && (!gl || oneB L)) := ⟨_, rfl⟩
  have HD : Hid (d = (mayT ((cnt, L, mo, (vk, vb), Q) : Tb) && (!gl || oneB L))) := hd
  have HBE : Hid (B = putT 25 gl ((cnt, L, mo, (vk, vb), Q) : Tb)) := hB
  have HBD : Hid (tabW 25 ((cnt, L, mo, (vk, vb), Q) : Tb) ≤ 140737488355328) := hbd
  have HSM : Hid (vb.size ≤ 140737488351232) := hsm
  have HSR : Hid (∀ r ∈ Q, ∀ V ∈ r, V.2.size ≤ 140737488351232) := hsr
  have HRL : Hid (Q.length = rl) := h.2.1
  have HCL : Hid (L.length = cl) := h.1.1
  have hmx := h.2.max
  have hmc := h.1.max
  unfold maxLen at hmx hmc
  obtain ⟨p, hp⟩ : ∃ p, p = w.heap.size := ⟨_, rfl⟩
  have HPE : Hid (w.heap.size = p) := hp.symm
  obtain ⟨w0, hw0⟩ : ∃ w0, w0 = w.alloc (.cells #[.int .i64 cnt, .slice ca cl cc, .bool mo, .int .i64 vk, .string vb, .slice ra rl rc] 38) := ⟨_, rfl⟩
  have HW0 : Hid (w.alloc (.cells #[.int .i64 cnt, .slice ca cl cc, .bool mo, .int .i64 vk, .string vb, .slice ra rl rc] 38) = w0) := hw0.symm
  have hB0 : Below w.heap.size w w0 := by rw [hw0]; exact below_one _ _
  have HB0 : Hid (Below w.heap.size w w0) := hB0
  have HP0 : Hid (w0.heap[p]? = some (.cells #[.int .i64 cnt, .slice ca cl cc, .bool mo, .int .i64 vk, .string vb, .slice ra rl rc] 38 (0, 0))) := by rw [hw0, hp]; exact heap_alloc_new w _
  obtain ⟨g, hg⟩ : ∃ g, g = w0.heap.size := ⟨_, rfl⟩
  have HGE : Hid (w0.heap.size = g) := hg.symm
  have hpg : p < g := by rw [hg]; exact block_lt HP0.out
  have HBW : Hid (∀ W, Below g w0 W → Below w.heap.size w W) := fun W hW => HB0.out.trans (hW.mono (by rw [hg]; exact HB0.out.size))
  have HA : Hid (∀ W, Below g w0 W → DtS (25 + 1) F W L Q ca cl cc ra rl rc) := fun W hW => h.old (HBW.out W hW)
  have HPW : Hid (∀ W, Below g w0 W → W.heap[p]? = some (.cells #[.int .i64 cnt, .slice ca cl cc, .bool mo, .int .i64 vk, .string vb, .slice ra rl rc] 38 (0, 0))) := fun W hW => (hW.block p hpg).trans HP0.out
  have HBX : Hid (Below g w0 w0) := Below.refl _ _
  clear hp hw0 hB0 hg h hd hB hbd hsm hsr
  obtain ⟨⟨a0, a1, a2, a3, a4, a5⟩, _⟩ := blk6 HP0.out
  cases d with
  | false =>
    have HE : Hid (B = ([], 1)) := by show _ = _; rw [HBE.out, putT, if_neg (by rw [← HD.out]; decide)]
    go_enter Tryd.func18, Tryd.ntmps18
    go_upto_region 1 with fail
    (try rw [HPE.out])
    rw [HW0.out]
    go_wp2_with fail
    refine (dmay_any (HA.out _ HBX.out) hi gl HD.out).mono ?_
    rintro e w1 ⟨rfl, HB1⟩
    go_wp2_with fail
    go_ret2
    exact dput_err HE.out (HBW.out _ (HB1.out.mono (by rw [HGE.out]; exact Nat.le_refl _)))
  | true =>
    have hcnt : 0 ≤ cnt ∧ cnt ≤ 4096 := by
      have h9 := HD.out
      have : mayT ((cnt, L, mo, (vk, vb), Q) : Tb) = true := by
        cases h8 : mayT ((cnt, L, mo, (vk, vb), Q) : Tb) with
        | true => rfl
        | false => rw [h8] at h9; exact absurd h9.symm (by simp)
      exact mayT_count this
    obtain ⟨hc0, hc1⟩ := hcnt
    have HB : Hid (B = seqB (headB 25 (flagsN gl cl mo cnt) ((cnt, L, mo, (vk, vb), Q) : Tb)) (rowsB Q)) := by
      show _ = _
      rw [HBE.out, putT, if_pos (by rw [← HD.out]), HCL.out]
    clear HBE
    go_enter Tryd.func18, Tryd.ntmps18
    go_upto_region 1 with fail
    (try rw [HPE.out])
    rw [HW0.out]
    clear HW0
    go_wp2_with fail
    refine (dmay_any (HA.out _ HBX.out) hi gl HD.out).mono ?_
    rintro e w1 ⟨rfl, HB1⟩
    have HL1 : Hid (Below g w0 w1) := HB1.out.mono (by rw [HGE.out]; exact Nat.le_refl _)
    obtain ⟨⟨a0, a1, a2, a3, a4, a5⟩, _⟩ := blk6 (HPW.out _ HL1.out)
    clear HB1
    go_upto_region 5 with fail
    go_cut [33] (fun b wc => b = .bool (gl && decide (0 < cl)) ∧ wc = w1)
    case first =>
      as_aux_lemma =>
        cases gl with
        | false =>
          go_wp2_with fail
          go_meet
          exact ⟨rfl, rfl⟩
        | true =>
          go_wp2_with fail
          go_meet
          exact ⟨by simp, rfl⟩
    case rest =>
      obtain ⟨hz, hw⟩ := hcut
      subst hz
      obtain rfl : w1 = wc := hw.symm
      obtain ⟨b1, hb1⟩ : ∃ b1, b1 = (gl && decide (0 < cl)) := ⟨_, rfl⟩
      have HB1 : Hid (b1 = (gl && decide (0 < cl))) := hb1
      rw [← hb1]
      clear hb1
      obtain ⟨f1, hf1⟩ : ∃ f1, f1 = fl1 gl cl := ⟨_, rfl⟩
      have HF1 : Hid (f1 = fl1 gl cl) := hf1
      have hr1 := fl1_r gl cl
      rw [← hf1] at hr1
      clear hf1
      go_upto_if 33 with fail
      go_cut [7] (fun f w' => f = .int .u8 f1 ∧ w' = w1)
      case first =>
        as_aux_lemma =>
          cases b1 with
          | false =>
            have HE : Hid (f1 = 0) := by
              show _ = _
              rw [HF1.out, fl1, if_neg]
              intro e
              have := HB1.out
              rw [e.1, decide_eq_true e.2] at this
              cases this
            go_wp2_with fail
            go_meet
            exact ⟨by rw [HE.out], rfl⟩
          | true =>
            have HE : Hid (f1 = 1) := by
              show _ = _
              have h9 := HB1.out
              rw [HF1.out, fl1, if_pos]
              cases gl with
              | false => cases h9
              | true => exact ⟨rfl, by simpa using h9.symm⟩
            go_wp2_with fail
            go_meet
            exact ⟨by rw [HE.out], rfl⟩
      case rest =>
        obtain ⟨hz, hw⟩ := hcut
        subst hz
        obtain rfl : w1 = wc := hw.symm
        obtain ⟨f2, hf2⟩ : ∃ f2, f2 = fl2 gl cl mo := ⟨_, rfl⟩
        have HF2 : Hid (f2 = fl2 gl cl mo) := hf2
        have hr2 := fl2_r gl cl mo
        rw [← hf2] at hr2
        clear hf2 hw
        go_upto_if 37 with fail
        go_cut [7] (fun f w' => f = .int .u8 f2 ∧ w' = w1)
        case first =>
          as_aux_lemma =>
            cases mo with
            | false =>
              have HE : Hid (f2 = f1) := by
                show _ = _
                rw [HF2.out, fl2, if_neg (by decide), HF1.out]; omega
              go_wp2_with fail
              go_meet
              exact ⟨by rw [HE.out], rfl⟩
            | true =>
              have HE : Hid (f2 = f1 + 2) := by
                show _ = _
                rw [HF2.out, fl2, if_pos rfl, HF1.out]
              go_wp2_with fail
              go_meet
              exact ⟨by rw [HE.out], rfl⟩
        case rest =>
          obtain ⟨hz, hw⟩ := hcut
          subst hz
          obtain rfl : w1 = wc := hw.symm
          obtain ⟨b3, hb3⟩ : ∃ b3, b3 = (decide (cl = 0) && decide (0 < cnt)) := ⟨_, rfl⟩
          have HB3 : Hid (b3 = (decide (cl = 0) && decide (0 < cnt))) := hb3
          clear hb3 hw
          go_upto_region 9 with fail
          go_cut [48] (fun b wc => b = .bool b3 ∧ wc = w1)
          case first =>
            as_aux_lemma =>
              by_cases hcl0 : cl = 0
              · have t1 : ((cl : Int) == 0) = true := by simpa using hcl0
                have HE : Hid (b3 = decide (0 < cnt)) := by show _ = _; rw [HB3.out, decide_eq_true hcl0]; rfl
                clear hcl0
                go_wp2_with fail
                go_meet
                exact ⟨by rw [HE.out], rfl⟩
              · have t1 : ((cl : Int) == 0) = false := by simpa using hcl0
                have HE : Hid (b3 = false) := by show _ = _; rw [HB3.out, decide_eq_false hcl0]; rfl
                clear hcl0
                go_wp2_with fail
                go_meet
                exact ⟨by rw [HE.out], rfl⟩
          case rest =>
            obtain ⟨hz, hw⟩ := hcut
            subst hz
            obtain rfl : w1 = wc := hw.symm
            obtain ⟨f, hf⟩ : ∃ f, f = flagsN gl cl mo cnt := ⟨_, rfl⟩
            have HF : Hid (f = flagsN gl cl mo cnt) := hf
            have hrf := flagsN_range gl cl mo cnt
            rw [← hf] at hrf
            clear hf hw
            go_upto_if 48 with fail
            go_cut [7] (fun b w' => b = .int .u8 f ∧ w' = w1)
            case first =>
              as_aux_lemma =>
                cases b3 with
                | false =>
                  have HE : Hid (f = f2) := by
                    show _ = _
                    rw [HF.out, fl3_e, if_neg, HF2.out]
                    · omega
                    · intro e
                      have h9 := HB3.out
                      rw [decide_eq_true e.1, decide_eq_true (show 0 < cnt by omega)] at h9
                      cases h9
                  go_wp2_with fail
                  go_meet
                  exact ⟨by rw [HE.out], rfl⟩
                | true =>
                  have HE : Hid (f = f2 + 4) := by
                    show _ = _
                    have h9 := HB3.out.symm
                    rw [Bool.and_eq_true, decide_eq_true_eq, decide_eq_true_eq] at h9
                    rw [HF.out, fl3_e, if_pos ⟨h9.1, by omega⟩, HF2.out]
                  go_wp2_with fail
                  go_meet
                  exact ⟨by rw [HE.out], rfl⟩
            case rest =>
              obtain ⟨hz, hw⟩ := hcut
              subst hz
              obtain rfl : w1 = wc := hw.symm
              have HBQ : Hid (B = seqB (headB 25 f ((cnt, L, mo, (vk, vb), Q) : Tb)) (rowsB Q)) := by show _ = _; rw [HF.out]; exact HB.out
              clear hw HB1 HF1 HF2 HB3 hr1 hr2 HB
              have HB4 : Hid (B = seqB (intB f) (seqB (intB cnt) (seqB (optB mo (valueB (vk, vb))) (seqB (colsFrom 25 (bitX f 1) 0 L) (rowsB Q))))) := by
                show _ = _
                rw [HBQ.out, headB]
                simp only [seqB_assoc]
              obtain ⟨RC, hRC⟩ : ∃ RC, RC = seqB (colsFrom 25 (bitX f 1) 0 L) (rowsB Q) := ⟨_, rfl⟩
              have HRC : Hid (RC = seqB (colsFrom 25 (bitX f 1) 0 L) (rowsB Q)) := hRC
              obtain ⟨RV, hRV⟩ : ∃ RV, RV = seqB (optB mo (valueB (vk, vb))) RC := ⟨_, rfl⟩
              have HRV : Hid (RV = seqB (optB mo (valueB (vk, vb))) RC) := hRV
              obtain ⟨WR, hWR⟩ : ∃ WR, WR = 4 + (Q.map rowW).sum := ⟨_, rfl⟩
              have HWR : Hid (WR = 4 + (Q.map rowW).sum) := hWR
              obtain ⟨WC, hWC⟩ : ∃ WC, WC = (L.map (colW 25)).sum + WR := ⟨_, rfl⟩
              have HWC : Hid (WC = (L.map (colW 25)).sum + WR) := hWC
              obtain ⟨C1, hC1⟩ : ∃ C1, C1 = intB cnt := ⟨_, rfl⟩
              have HC1 : Hid (C1 = intB cnt) := hC1
              have HBV : Hid (B = seqB (intB f) (seqB C1 RV)) := by show _ = _; rw [hRV, hRC, hC1]; exact HB4.out
              have HW0 : Hid (4 + (4 + (valW (vk, vb) + WC)) ≤ 140737488355328) := by
                have h9 : 16 + (valW (vk, vb) + ((L.map (colW 25)).sum + (Q.map rowW).sum)) ≤ 140737488355328 := HBD.out
                show _ ≤ _
                rw [hWC, hWR]; omega
              have hgz : g ≤ w0.heap.size := by rw [HGE.out]; exact Nat.le_refl _
              obtain ⟨k1, hk1⟩ : ∃ k1, k1 = w1.heap.size := ⟨_, rfl⟩
              have HK1 : Hid (w1.heap.size = k1) := hk1.symm
              obtain ⟨w2, hw2⟩ : ∃ w2, w2 = w1.alloc (.cells #[.int .u8 0, .int .u8 0, .int .u8 0, .int .u8 f] 5) := ⟨_, rfl⟩
              have HW2 : Hid (w1.alloc (.cells #[.int .u8 0, .int .u8 0, .int .u8 0, .int .u8 f] 5) = w2) := hw2.symm
              have HD2 : Hid (DO g w0 B (seqB C1 RV) (4 + (valW (vk, vb) + WC)) (.slice (some ⟨k1, 0, none⟩) 4 4) w2) := by rw [hw2]; exact DO.start hrf HL1.out hgz HK1.out HBV.out HW0.out
              have hcw : IntKind.u64.wrap cnt = cnt := by rw [IntKind.wrap_u64]; omega
              clear hRC hRV hWR hWC hC1 hk1 hw2 HB4 HBQ HBV HBD
              go_upto_region 12 with fail
              rw [HW2.out]
              (try rw [HK1.out])
              clear HW2 HK1 a0 a1 a2 a3 a4 a5
              obtain ⟨⟨a0, a1, a2, a3, a4, a5⟩, _⟩ := blk6 (HPW.out _ HD2.out.low)
              go_wp2_with fail
              refine (rput_own cnt 4 _ (by omega) (by omega) hc0 (by omega) _ rfl).mono ?_
              rintro e w3 ⟨v3, rfl, ho3, hb3⟩
              obtain ⟨y3, z3, hv3, hi3⟩ := own_isB ho3 (putL_range _ _)
              obtain ⟨N3, hN3⟩ : ∃ N3, N3 = (putL cnt 4).length := ⟨_, rfl⟩
              rw [← hN3] at hv3 hi3
              subst hv3
              have HI3 : Hid (IsB w3 y3 N3 z3 C1.1) := by rw [HC1.out]; exact hi3
              obtain ⟨X3, n3, HO3, HS3, HG3, HN3⟩ := HD2.out.onto hgz hb3 (by rw [HC1.out]; rfl) (by rw [HC1.out, hN3]; rfl) HI3.out (by rw [HC1.out]; exact Nat.le_of_eq (putL_length _ _))
              clear hN3 hi3 ho3 hb3 hcw a0 a1 a2 a3 a4 a5
              go_wp2_with (at_builtin; refine wpList_append_own rfl (.tmp 53) (.tmp 57) rfl rfl HO3.out rfl HI3.out HS3.out HG3.out ?_)
              intro v4 w4 ho4 hK4 _
              have HD4 : Hid (DO g w0 B RV (valW (vk, vb) + WC) v4 w4) := HN3.out v4 w4 ho4 hK4
              obtain ⟨⟨a0, a1, a2, a3, a4, a5⟩, _⟩ := blk6 (HPW.out _ HD4.out.low)
              clear ho4 hK4 HO3 HS3 HG3 HN3 HI3 HD2
              go_upto_if 60 with fail
              go_cut [8] (fun v wc => ∃ v5, v = v5 ∧ Hid (DO g w0 B RC WC v5 wc))
              case first =>
                as_aux_lemma =>
                  cases mo with
                  | false =>
                    have HE : Hid (DO g w0 B RC WC v4 w4) := HD4.out.eq (by rw [HRV.out, HRC.out]; exact unit_seqB (nrm_seq _ _)) (by omega)
                    go_wp2_with fail
                    go_meet
                    exact ⟨_, rfl, HE⟩
                  | true =>
                    obtain ⟨C2, hC2⟩ : ∃ C2, C2 = valueB (vk, vb) := ⟨_, rfl⟩
                    have HC2 : Hid (C2 = valueB (vk, vb)) := hC2
                    have HDV : Hid (DO g w0 B (seqB C2 RC) (valW (vk, vb) + WC) v4 w4) := HD4.out.eq (by rw [HRV.out, hC2]; rfl) (by omega)
                    clear hC2
                    go_wp2_with fail
                    refine (rvalue_any (vk, vb) _ HSM.out HC2.out).mono ?_
                    rintro e w5 ⟨y5, z5, rfl, HI5, hb5⟩
                    obtain ⟨N5, hN5⟩ : ∃ N5, N5 = C2.1.length := ⟨_, rfl⟩
                    rw [← hN5] at HI5 ⊢
                    obtain ⟨ce, hce⟩ : ∃ ce, ce = C2.2 := ⟨_, rfl⟩
                    rw [← hce]
                    have HLW : Hid (Below g w0 w5) := (HDV.out.new hgz hb5).low
                    by_cases he : ce = 0
                    · subst he
                      obtain ⟨X5, n5, HO5, HS5, HG5, HN6⟩ := HDV.out.onto hgz hb5 hce.symm hN5.symm HI5.out (by rw [HC2.out]; exact valueB_len _)
                      clear hN5 hb5 hce
                      go_wp2_with (at_builtin; refine wpList_append_own rfl (.tmp 70) (.tmp 71) rfl rfl HO5.out rfl HI5.out HS5.out HG5.out ?_)
                      intro v6 w6 ho6 hK6 _
                      have HD6 : Hid (DO g w0 B RC WC v6 w6) := HN6.out v6 w6 ho6 hK6
                      clear ho6 hK6
                      go_wp2_with fail
                      go_meet
                      exact ⟨_, rfl, HD6⟩
                    · have t : (ce != 0) = true := by simpa using he
                      have HE : Hid (B = ([], ce)) := by show _ = _; rw [hce]; exact HDV.out.bad (by rw [← hce]; exact he)
                      clear hN5 hb5 hce he
                      go_wp2_with fail
                      go_ret2
                      exact dput_err HE.out (HBW.out _ HLW.out)
              case rest =>
                obtain ⟨v5, hv5, HD5⟩ := hcut
                obtain rfl : v5 = _ := hv5.symm
                obtain ⟨w5, hw5⟩ : ∃ x, x = wc := ⟨_, rfl⟩
                subst hw5
                clear HD4 a0 a1 a2 a3 a4 a5
                obtain ⟨⟨a0, a1, a2, a3, a4, a5⟩, _⟩ := blk6 (HPW.out _ HD5.out.low)
                obtain ⟨b1, hb1⟩ : ∃ b1, b1 = bitX f 1 := ⟨_, rfl⟩
                have hbt : (f % 2 == 1) = b1 := by rw [hb1, HF.out, fl_odd, bit_one]
                obtain ⟨RQ, hRQ⟩ : ∃ RQ, RQ = rowsB Q := ⟨_, rfl⟩
                have HRQ : Hid (RQ = rowsB Q) := hRQ
                have H0 : Hid (DO g w0 B (seqB (colsFrom 25 b1 0 (L.drop 0)) RQ) (((L.drop 0).map (colW 25)).sum + WR) v5 w5) := by
                  show DO _ _ _ _ _ _ _
                  rw [List.drop_zero, hb1, hRQ, ← HWC.out, ← HRC.out]; exact HD5.out
                clear hb1 hRQ HD5 hv5
                go_wp2_with fail
                go_loopw [8, 11] (fun v i wr => ∃ (k : Nat) (u : Value), k ≤ cl ∧ v = u ∧ i = .int .i64 k ∧ Hid (DO g w0 B (seqB (colsFrom 25 b1 k (L.drop k)) RQ) (((L.drop k).map (colW 25)).sum + WR) u wr)) (fun _ i _ => cl - (intOf i).toNat)
                case atStart => exact ⟨0, v5, by omega, rfl, rfl, H0⟩
                case round =>
                  obtain ⟨k, u, hk, hu, rfl, HDk⟩ := hrel
                  obtain rfl : u = _ := hu.symm
                  clear H0 hu a0 a1 a2 a3 a4 a5
                  obtain ⟨w6, hw6⟩ : ∃ x, x = wr := ⟨_, rfl⟩
                  subst hw6
                  obtain ⟨⟨a0, a1, a2, a3, a4, a5⟩, _⟩ := blk6 (HPW.out _ HDk.out.low)
                  by_cases hlt : k < cl
                  case neg =>
                    obtain rfl : k = cl := by omega
                    obtain ⟨C1b, hC1b⟩ : ∃ C1b, C1b = intB rl := ⟨_, rfl⟩
                    have HC1b : Hid (C1b = intB rl) := hC1b
                    obtain ⟨WQ, hWQ⟩ : ∃ WQ, WQ = (Q.map rowW).sum := ⟨_, rfl⟩
                    have HWQ : Hid (WQ = (Q.map rowW).sum) := hWQ
                    have HDr : Hid (DO g w0 B (seqB C1b (goQ rowB Q)) (4 + WQ) u w6) := by
                      refine HDk.out.eq ?_ (by rw [hWQ, HWR.out]; omega)
                      rw [List.drop_eq_nil_of_le (by rw [HCL.out]; exact Nat.le_refl _), HRQ.out, hC1b, ← HRL.out]
                      exact unit_seqB (nrm_seq _ _)
                    have hcw : IntKind.u64.wrap (rl : Int) = rl := by rw [IntKind.wrap_u64]; omega
                    clear hC1b hWQ HDk
                    go_wp2_with fail
                    refine (rput_own (rl : Int) 4 _ (by omega) (by omega) (by omega) (by omega) _ rfl).mono ?_
                    rintro e w3 ⟨v3, rfl, ho3, hb3⟩
                    obtain ⟨y3, z3, hv3, hi3⟩ := own_isB ho3 (putL_range _ _)
                    obtain ⟨N3, hN3⟩ : ∃ N3, N3 = (putL (rl : Int) 4).length := ⟨_, rfl⟩
                    rw [← hN3] at hv3 hi3
                    subst hv3
                    have HI3 : Hid (IsB w3 y3 N3 z3 C1b.1) := by rw [HC1b.out]; exact hi3
                    obtain ⟨X3, n3, HO3, HS3, HG3, HN3⟩ := HDr.out.onto hgz hb3 (by rw [HC1b.out]; rfl) (by rw [HC1b.out, hN3]; rfl) HI3.out (by rw [HC1b.out]; exact Nat.le_of_eq (putL_length _ _))
                    clear hN3 hi3 ho3 hb3 hcw a0 a1 a2 a3 a4 a5
                    go_wp2_with (at_builtin; refine wpList_append_own rfl (.tmp 144) (.tmp 149) rfl rfl HO3.out rfl HI3.out HS3.out HG3.out ?_)
                    intro v4 w4 ho4 hK4 _
                    have HD4 : Hid (DO g w0 B (goQ rowB Q) WQ v4 w4) := HN3.out v4 w4 ho4 hK4
                    have H5 : Hid (DO g w0 B (goQ rowB (Q.drop 0)) (((Q.drop 0).map rowW).sum) v4 w4) := by show DO _ _ _ _ _ _ _; rw [List.drop_zero, ← HWQ.out]; exact HD4.out
                    obtain ⟨⟨a0, a1, a2, a3, a4, a5⟩, _⟩ := blk6 (HPW.out _ HD4.out.low)
                    clear ho4 hK4 HO3 HS3 HG3 HN3 HI3 HDr HD4
                    go_wp2_with fail
                    go_loopw [8, 18] (fun v i wr => ∃ (j : Nat) (y : Value), j ≤ rl ∧ v = y ∧ i = .int .i64 j ∧ Hid (DO g w0 B (goQ rowB (Q.drop j)) (((Q.drop j).map rowW).sum) y wr)) (fun _ i _ => rl - (intOf i).toNat)
                    case atStart => exact ⟨0, v4, by omega, rfl, rfl, H5⟩
                    case round =>
                      obtain ⟨j, y, hj, hy, rfl, HDj⟩ := hrel
                      obtain rfl : y = _ := hy.symm
                      clear H5 hy a0 a1 a2 a3 a4 a5
                      obtain ⟨w8, hw8⟩ : ∃ x, x = wr := ⟨_, rfl⟩
                      subst hw8
                      obtain ⟨⟨a0, a1, a2, a3, a4, a5⟩, _⟩ := blk6 (HPW.out _ HDj.out.low)
                      by_cases hjl : j < rl
                      case neg =>
                        have HDf : Hid (DO g w0 B ([], 0) 0 y w8) := by
                          refine HDj.out.eq ?_ (by omega)
                          rw [List.drop_eq_nil_of_le (by rw [HRL.out]; omega), goQ]
                        obtain ⟨fa, fl, fc, hv, hP⟩ := HDf.out.done HB0.out (by rw [← HGE.out]; exact HB0.out.size)
                        subst hv
                        have HP9 : Hid _ := hP
                        clear hP HDj HDf
                        go_wp2_with fail
                        go_ret2
                        exact HP9.out
                      case pos =>
                        obtain ⟨r, b9, off, yr, lr, cr, hr, hra, hb9, _, c0, hrow⟩ := (HA.out _ HDj.out.low).2.rs hjl
                        have HRJ : Hid (Q[j]? = some r) := hr
                        have HRM : Hid (r ∈ Q) := List.mem_of_getElem? hr
                        obtain ⟨WJ, hWJ⟩ : ∃ WJ, WJ = ((Q.drop (j + 1)).map rowW).sum := ⟨_, rfl⟩
                        have HWJ : Hid (WJ = ((Q.drop (j + 1)).map rowW).sum) := hWJ
                        obtain ⟨RJ, hRJ⟩ : ∃ RJ, RJ = goQ rowB (Q.drop (j + 1)) := ⟨_, rfl⟩
                        have HRJ2 : Hid (RJ = goQ rowB (Q.drop (j + 1))) := hRJ
                        have H6 : Hid (DO g w0 B (seqB (goQ valueB (r.drop 0)) RJ) (((r.drop 0).map valW).sum + WJ) y w8) := HDj.out.eq (by rw [goQ_cons hr, hRJ, List.drop_zero]; rfl) (by rw [sum_drop2 hr, hWJ, List.drop_zero]; exact Nat.le_refl _)
                        have hrl : r.length = lr := hrow.1
                        have hrm := hrow.max
                        unfold maxLen at hrm
                        clear hr hra hb9 c0 hrow hWJ hRJ HDj
                        obtain ⟨lm, hlm⟩ : ∃ lm, lm = r.length := ⟨_, rfl⟩
                        have HLM : Hid (r.length = lm) := hlm.symm
                        have hlm2 : lm ≤ 9223372036854775807 := by omega
                        clear hrl hlm hrm
                        go_wp2_with fail
                        go_loopw [8, 19] (fun v i wr => ∃ (l : Nat) (y : Value), l ≤ lm ∧ v = y ∧ i = .int .i64 l ∧ Hid (DO g w0 B (seqB (goQ valueB (r.drop l)) RJ) (((r.drop l).map valW).sum + WJ) y wr)) (fun _ i _ => lm - (intOf i).toNat)
                        case atStart => exact ⟨0, y, by omega, rfl, rfl, H6⟩
                        case round =>
                          obtain ⟨l, z, hl, hz, rfl, HDl⟩ := hrel
                          obtain rfl : z = _ := hz.symm
                          clear H6 hz a0 a1 a2 a3 a4 a5
                          obtain ⟨w9, hw9⟩ : ∃ x, x = wr := ⟨_, rfl⟩
                          subst hw9
                          obtain ⟨⟨a0, a1, a2, a3, a4, a5⟩, _⟩ := blk6 (HPW.out _ HDl.out.low)
                          obtain ⟨r', b9, off, yr, lr, cr, hr, hra, hb9, _, c0, hrow⟩ := (HA.out _ HDl.out.low).2.rs hjl
                          have hrr := hr.symm.trans HRJ.out
                          simp only [Option.some.injEq] at hrr
                          obtain rfl : r' = r := hrr
                          subst hra
                          obtain rfl : lr = lm := by rw [← HLM.out]; exact hrow.1.symm
                          have HROW : Hid (Sees 2 F (VVs F w9) w9 yr lr cr r') := hrow
                          clear hr hb9 hrow
                          by_cases hll : l < lr
                          case neg =>
                            obtain rfl : l = lr := by omega
                            have HDn : Hid (DO g w0 B (goQ rowB (Q.drop (j + 1))) (((Q.drop (j + 1)).map rowW).sum) z w9) := by
                              refine HDl.out.eq ?_ (by rw [HWJ.out]; omega)
                              rw [List.drop_eq_nil_of_le (by rw [HLM.out]; exact Nat.le_refl _), goQ, ← HRJ2.out]
                              have hn : Nrm RJ := by
                                rw [HRJ2.out]
                                cases Q.drop (j + 1) with
                                | nil => intro e; exact absurd rfl e
                                | cons a b => exact nrm_seq _ _
                              exact unit_seqB hn
                            clear HDl
                            go_wp2_with fail
                            go_roundw
                            case rel => exact ⟨j + 1, z, by omega, rfl, by go_num, HDn⟩
                            case measure => simp [intOf]; omega
                          case pos =>
                            obtain ⟨V, vb2, voff, hv, hya, hvb, _, d0, d1⟩ := HROW.out.vs hll
                            subst hya
                            have HVM : Hid (V.2.size ≤ 140737488351232) := HSR.out r' HRM.out V (List.mem_of_getElem? hv)
                            obtain ⟨C9, hC9⟩ : ∃ C9, C9 = valueB V := ⟨_, rfl⟩
                            have HC9 : Hid (C9 = valueB V) := hC9
                            have HC9l : Hid (C9.1.length ≤ valW V) := by rw [hC9]; exact valueB_len _
                            have HD9 : Hid (DO g w0 B (seqB C9 (seqB (goQ valueB (r'.drop (l + 1))) RJ)) (valW V + (((r'.drop (l + 1)).map valW).sum + WJ)) z w9) := HDl.out.eq (by rw [goQ_cons hv, seqB_assoc, hC9]) (by rw [sum_drop2 hv]; omega)
                            obtain ⟨v1, v2⟩ := V
                            clear hv hC9 HDl HROW
                            go_wp2_with fail
                            refine (rvalue_any (v1, v2) _ HVM.out HC9.out).mono ?_
                            rintro e wb ⟨y9, z9, rfl, HI9, hb9⟩
                            obtain ⟨N9, hN9⟩ : ∃ N9, N9 = C9.1.length := ⟨_, rfl⟩
                            rw [← hN9] at HI9 ⊢
                            obtain ⟨ce, hce⟩ : ∃ ce, ce = C9.2 := ⟨_, rfl⟩
                            rw [← hce]
                            have HLW : Hid (Below g w0 wb) := (HD9.out.new hgz hb9).low
                            clear c0 d0 d1 a0 a1 a2 a3 a4 a5
                            by_cases he : ce = 0
                            · subst he
                              obtain ⟨X9, n9, HO9, HS9, HG9, HN9⟩ := HD9.out.onto hgz hb9 hce.symm hN9.symm HI9.out HC9l.out
                              clear hN9 hb9 hce
                              go_wp2_with (at_builtin; refine wpList_append_own rfl (.tmp 183) (.tmp 184) rfl rfl HO9.out rfl HI9.out HS9.out HG9.out ?_)
                              intro va wa hoa hKa _
                              have HDa : Hid (DO g w0 B (seqB (goQ valueB (r'.drop (l + 1))) RJ) (((r'.drop (l + 1)).map valW).sum + WJ) va wa) := HN9.out va wa hoa hKa
                              clear hoa hKa HO9 HS9 HG9 HN9 HI9
                              go_wp2_with fail
                              go_roundw
                              case rel => exact ⟨l + 1, va, by omega, rfl, by go_num, HDa⟩
                              case measure => simp [intOf]; omega
                            · have tt : (ce != 0) = true := by simpa using he
                              have HE : Hid (B = ([], ce)) := by show _ = _; rw [hce]; exact HD9.out.bad (by rw [← hce]; exact he)
                              clear hN9 hb9 hce he
                              go_wp2_with fail
                              go_ret2
                              exact dput_err HE.out (HBW.out _ HLW.out)
                  case pos =>
                    obtain ⟨s, t, nm, X, b8, off, na, nl, nc, ka, kl, kc, hx, ha, hbs, hF, ⟨c0, c1, c2, c3, c4, c5, c6, c7⟩, hsz, hty⟩ := (HA.out _ HDk.out.low).1.col hlt
                    subst ha
                    obtain ⟨full, hfull⟩ : ∃ full, full = (decide (k = 0) || !b1) := ⟨_, rfl⟩
                    have HFU : Hid (full = (decide (k = 0) || !b1)) := hfull
                    obtain ⟨RN, hRN⟩ : ∃ RN, RN = seqB (colsFrom 25 b1 (k + 1) (L.drop (k + 1))) RQ := ⟨_, rfl⟩
                    have HRN : Hid (RN = seqB (colsFrom 25 b1 (k + 1) (L.drop (k + 1))) RQ) := hRN
                    obtain ⟨WN, hWN⟩ : ∃ WN, WN = ((L.drop (k + 1)).map (colW 25)).sum + WR := ⟨_, rfl⟩
                    have HWN : Hid (WN = ((L.drop (k + 1)).map (colW 25)).sum + WR) := hWN
                    obtain ⟨C7, hC7⟩ : ∃ C7, C7 = putR 25 X := ⟨_, rfl⟩
                    have HC7 : Hid (C7 = putR 25 X) := hC7
                    have HDc : Hid (DO g w0 B (seqB (goQ textB (txt full (s, t, nm, X))) (seqB C7 RN)) (196611 + (wgt 26 X + WN)) u w6) := HDk.out.eq (by rw [colsFrom_at hx, seqB_assoc, ← hfull, colB_txt, hRN, hC7]) (by rw [sum_drop2 hx, hWN]; show 196611 + (wgt 26 X + _) ≤ 196611 + wgt 26 X + _ + _; omega)
                    have HSZ : Hid (∀ (i : Nat) x, [s, t, nm][i]? = some x → x.size ≤ maxLen) := by
                      intro i x hix
                      have hm := List.mem_of_getElem? hix
                      simp only [List.mem_cons, List.not_mem_nil, or_false] at hm
                      rcases hm with rfl | rfl | rfl
                      · exact hsz.1
                      · exact hsz.2.1
                      · exact hsz.2.2
                    have HX : Hid (L[k]? = some (s, t, nm, X)) := hx
                    have HKP : Hid (∀ W, Below w6.heap.size w6 W → W.cell? ⟨p, 1, none⟩ = some (.slice (some ⟨b8, off, none⟩) cl cc) ∧ W.cell? ⟨b8, off + k * 8, none⟩ = some (.string s) ∧ W.cell? ⟨b8, off + k * 8 + 1, none⟩ = some (.string t) ∧ W.cell? ⟨b8, off + k * 8 + 2, none⟩ = some (.string nm) ∧ Below w6.heap.size w6 W) := by
                      intro W hW
                      obtain ⟨⟨_, e1, _⟩, _⟩ := blk6 ((hW.block p (block_lt (HPW.out _ HDk.out.low))).trans (HPW.out _ HDk.out.low))
                      exact ⟨e1, (hW.cell (p := ⟨b8, off + k * 8, none⟩) hbs).trans c0, (hW.cell (p := ⟨b8, off + k * 8 + 1, none⟩) hbs).trans c1, (hW.cell (p := ⟨b8, off + k * 8 + 2, none⟩) hbs).trans c2, hW⟩
                    clear hx hRN hWN hC7 hfull hsz hbs hF hty c0 c1 c2 c3 c4 c5 c6 c7
                    go_upto_region 21 with fail
                    obtain ⟨m1, m2, m3, m4, m5⟩ := HKP.out w6 (Below.refl _ _)
                    go_region_held3 (fun W => W.cell? ⟨p, 1, none⟩ = some (.slice (some ⟨b8, off, none⟩) cl cc) ∧ W.cell? ⟨b8, off + k * 8, none⟩ = some (.string s) ∧ W.cell? ⟨b8, off + k * 8 + 1, none⟩ = some (.string t) ∧ W.cell? ⟨b8, off + k * 8 + 2, none⟩ = some (.string nm) ∧ Below w6.heap.size w6 W)
                      (first | (refine HKP.out _ (by repeat' (first | assumption | exact Below.refl _ _ | exact Below.size (by assumption) | exact Nat.le_refl _ | refine Below.drew ?_ | refine Below.alloc ?_ ?_ _)))) (fail)
                    rename_i hHeld
                    clear hHeld m1 m2 m3 m4 m5 a0 a1 a2 a3 a4 a5
                    obtain ⟨lb, hlb⟩ : ∃ lb, lb = w6.heap.size := ⟨_, rfl⟩
                    obtain ⟨w7, hw7⟩ : ∃ w7, w7 = (w6.alloc (.cells #[.string s, .string t, .string nm] 9)).drew := ⟨_, rfl⟩
                    rw [← hw7, ← hlb]
                    have hB67 : Below w6.heap.size w6 w7 := by rw [hw7]; exact (below_one _ _).drew
                    have HL7 : Hid (w7.heap[lb]? = some (.cells #[.string s, .string t, .string nm] 9 (0, 0))) := by rw [hw7, hlb]; exact heap_alloc_new w6 _
                    have HD7 : Hid (DO g w0 B (seqB (goQ textB (txt full (s, t, nm, X))) (seqB C7 RN)) (196611 + (wgt 26 X + WN)) u w7) := HDc.out.new hgz hB67
                    have HU7 : Hid (u.ownBlock ≠ some lb) := fun e => by have := (HDc.out.own lb e).2; omega
                    obtain ⟨⟨a0, a1, a2, a3, a4, a5⟩, _⟩ := blk6 (HPW.out _ HD7.out.low)
                    clear hw7 hlb hB67 HDc HKP HDk
                    go_upto_region 22 with fail
                    go_cut [105] (fun b wc => b = .bool (!full) ∧ wc = w7)
                    case first =>
                      as_aux_lemma =>
                        cases b1 with
                        | false =>
                          have HE : Hid (full = true) := by show _ = _; rw [HFU.out]; simp
                          go_wp2_with fail
                          go_meet
                          exact ⟨by rw [HE.out]; rfl, rfl⟩
                        | true =>
                          by_cases hk0 : 0 < k
                          · have hkd : decide (0 < k) = true := by simpa using hk0
                            have HE : Hid (full = false) := by show _ = _; rw [HFU.out, decide_eq_false (show ¬ k = 0 by omega)]; rfl
                            go_wp2_with fail
                            go_meet
                            exact ⟨by rw [HE.out]; rfl, rfl⟩
                          · have hkd : decide (0 < k) = false := by simpa using hk0
                            have HE : Hid (full = true) := by show _ = _; rw [HFU.out, decide_eq_true (show k = 0 by omega)]; rfl
                            go_wp2_with fail
                            go_meet
                            exact ⟨by rw [HE.out]; rfl, rfl⟩
                    case rest =>
                      obtain ⟨hz, hw⟩ := hcut
                      subst hz
                      obtain rfl : w7 = wc := hw.symm
                      clear hw
                      go_upto_if 105 with fail
                      go_cut [12] (fun l wc => ∃ o m : Nat, o + m = 3 ∧ l = .slice (some ⟨lb, o, none⟩) m m ∧ wc = w7 ∧ Hid (txt full (s, t, nm, X) = [s, t, nm].drop o))
                      case first =>
                        as_aux_lemma =>
                          cases full with
                          | true =>
                            have HT : Hid (txt true (s, t, nm, X) = [s, t, nm].drop 0) := rfl
                            clear HFU
                            go_wp2_with fail
                            go_meet
                            exact ⟨0, 3, rfl, rfl, rfl, HT⟩
                          | false =>
                            have HT : Hid (txt false (s, t, nm, X) = [s, t, nm].drop 2) := rfl
                            clear HFU
                            go_wp2_with fail
                            go_meet
                            exact ⟨2, 1, rfl, rfl, rfl, HT⟩
                      case rest =>
                        obtain ⟨o, m, hom, rfl, hw, HTX⟩ := hcut
                        obtain rfl : w7 = wc := hw.symm
                        have H8 : Hid (DO g w0 B (seqB (goQ textB ([s, t, nm].drop (o + 0))) (seqB C7 RN)) (65537 * (m - 0) + (wgt 26 X + WN)) u w7) := by
                          have h0 := HD7.out
                          rw [HTX.out] at h0
                          exact h0.eq rfl (by omega)
                        have hm3 : m ≤ 3 := by omega
                        clear HD7 HTX hw
                        go_wp2_with fail
                        go_loopw [8, 13] (fun v i wr => ∃ (j : Nat) (y : Value), j ≤ m ∧ v = y ∧ i = .int .i64 j ∧ Hid (DO g w0 B (seqB (goQ textB ([s, t, nm].drop (o + j))) (seqB C7 RN)) (65537 * (m - j) + (wgt 26 X + WN)) y wr) ∧ Hid (wr.heap[lb]? = some (.cells #[.string s, .string t, .string nm] 9 (0, 0))) ∧ Hid (y.ownBlock ≠ some lb)) (fun _ i _ => m - (intOf i).toNat)
                        case atStart => exact ⟨0, u, by omega, rfl, rfl, H8, HL7, HU7⟩
                        case round =>
                          obtain ⟨j, y, hj, hy, rfl, HDj, HLj, HUj⟩ := hrel
                          obtain rfl : y = _ := hy.symm
                          clear H8 HL7 HU7 hy a0 a1 a2 a3 a4 a5
                          obtain ⟨w8, hw8⟩ : ∃ x, x = wr := ⟨_, rfl⟩
                          subst hw8
                          obtain ⟨⟨a0, a1, a2, a3, a4, a5⟩, _⟩ := blk6 (HPW.out _ HDj.out.low)
                          by_cases hjm : j < m
                          case pos =>
                            obtain ⟨x, hx⟩ : ∃ x, [s, t, nm][o + j]? = some x := ⟨_, List.getElem?_eq_getElem (show o + j < [s, t, nm].length by simp; omega)⟩
                            have e0 := blk3 HLj.out hx
                            have HXS : Hid (x.size ≤ maxLen) := HSZ.out _ _ hx
                            obtain ⟨C9, hC9⟩ : ∃ C9, C9 = textB x := ⟨_, rfl⟩
                            have HC9 : Hid (C9 = textB x) := hC9
                            have HD9 : Hid (DO g w0 B (seqB C9 (seqB (goQ textB ([s, t, nm].drop (o + (j + 1)))) (seqB C7 RN))) (65537 + (65537 * (m - (j + 1)) + (wgt 26 X + WN))) y w8) := HDj.out.eq (by rw [goQ_cons hx, seqB_assoc, hC9]; rfl) (by omega)
                            have hlb8 := block_lt HLj.out
                            clear hx hC9 HDj
                            go_wp2_with fail
                            refine (rtext_any x _ HXS.out HC9.out).mono ?_
                            rintro e w9 ⟨y9, z9, rfl, HI9, hb9⟩
                            obtain ⟨N9, hN9⟩ : ∃ N9, N9 = C9.1.length := ⟨_, rfl⟩
                            rw [← hN9] at HI9 ⊢
                            obtain ⟨ce, hce⟩ : ∃ ce, ce = C9.2 := ⟨_, rfl⟩
                            rw [← hce]
                            have HLW : Hid (Below g w0 w9) := (HD9.out.new hgz hb9).low
                            have HL9 : Hid (w9.heap[lb]? = some (.cells #[.string s, .string t, .string nm] 9 (0, 0))) := (hb9.block lb hlb8).trans HLj.out
                            have hlb9 := block_lt HL9.out
                            by_cases he : ce = 0
                            · subst he
                              obtain ⟨X9, n9, HO9, HS9, HG9, HN9⟩ := HD9.out.onto hgz hb9 hce.symm hN9.symm HI9.out (by rw [HC9.out]; exact textB_len _)
                              clear hN9 hb9 hce a0 a1 a2 a3 a4 a5 e0
                              go_wp2_with (at_builtin; refine wpList_append_own rfl (.tmp 125) (.tmp 126) rfl rfl HO9.out rfl HI9.out HS9.out HG9.out ?_)
                              intro va wa hoa hKa hva
                              have HDa : Hid (DO g w0 B (seqB (goQ textB ([s, t, nm].drop (o + (j + 1)))) (seqB C7 RN)) (65537 * (m - (j + 1)) + (wgt 26 X + WN)) va wa) := HN9.out va wa hoa hKa
                              have HLa : Hid (wa.heap[lb]? = some (.cells #[.string s, .string t, .string nm] 9 (0, 0))) := (hKa.block lb hlb9 HUj.out).trans HL9.out
                              have HUa : Hid (va.ownBlock ≠ some lb) := fun e => by
                                rcases hva with h9 | h9
                                · rw [h9] at e; exact HUj.out e
                                · rw [h9] at e; cases e; omega
                              clear hoa hKa hva HO9 HS9 HG9 HN9 HI9 HL9 HLj HUj
                              go_wp2_with fail
                              go_roundw
                              case rel => exact ⟨j + 1, va, by omega, rfl, by go_num, HDa, HLa, HUa⟩
                              case measure => simp [intOf]; omega
                            · have tt : (ce != 0) = true := by simpa using he
                              have HE : Hid (B = ([], ce)) := by show _ = _; rw [hce]; exact HD9.out.bad (by rw [← hce]; exact he)
                              clear hN9 hb9 hce he
                              go_wp2_with fail
                              go_ret2
                              exact dput_err HE.out (HBW.out _ HLW.out)
                          case neg =>
                            obtain rfl : j = m := by omega
                            have HDt : Hid (DO g w0 B (seqB C7 RN) (wgt 26 X + WN) y w8) := by
                              refine HDj.out.eq ?_ (by omega)
                              rw [List.drop_eq_nil_of_le (by simp; omega), goQ]
                              exact unit_seqB (nrm_seq _ _)
                            obtain ⟨s', t', nm', X', b9, off', na', nl', nc', ka', kl', kc', hx', ha', hbs', hF', ⟨c0, c1, c2, c3, c4, c5, c6, c7⟩, hsz', hty'⟩ := (HA.out _ HDt.out.low).1.col hlt
                            cases ha'
                            have hxx := hx'.symm.trans HX.out
                            simp only [Option.some.injEq, Prod.mk.injEq] at hxx
                            obtain ⟨rfl, rfl, rfl, rfl⟩ := hxx
                            have HTY' : Hid (TyAt 25 F w8 X' na' nl' nc' ka' kl' kc') := hty'
                            clear hx' hsz' hF' hty' HDj HLj HUj
                            go_wp2_with fail
                            refine (refPut_any HTY'.out (by have := HDt.out.wt; omega) HC7.out).mono ?_
                            rintro e w9 ⟨y9, z9, rfl, HI9, hb9⟩
                            obtain ⟨N9, hN9⟩ : ∃ N9, N9 = C7.1.length := ⟨_, rfl⟩
                            rw [← hN9] at HI9 ⊢
                            obtain ⟨ce, hce⟩ : ∃ ce, ce = C7.2 := ⟨_, rfl⟩
                            rw [← hce]
                            have HLW : Hid (Below g w0 w9) := (HDt.out.new hgz hb9).low
                            clear c0 c1 c2 c3 c4 c5 c6 c7 a0 a1 a2 a3 a4 a5
                            by_cases he : ce = 0
                            · subst he
                              obtain ⟨X9, n9, HO9, HS9, HG9, HN9⟩ := HDt.out.onto hgz hb9 hce.symm hN9.symm HI9.out (by rw [HC7.out]; exact putR_len)
                              clear hN9 hb9 hce
                              go_wp2_with (at_builtin; refine wpList_append_own rfl (.tmp 141) (.tmp 142) rfl rfl HO9.out rfl HI9.out HS9.out HG9.out ?_)
                              intro va wa hoa hKa _
                              have HDa : Hid (DO g w0 B RN WN va wa) := HN9.out va wa hoa hKa
                              rw [HRN.out, HWN.out] at HDa
                              have HDa : Hid (DO g w0 B (seqB (colsFrom 25 b1 (k + 1) (L.drop (k + 1))) RQ) (((L.drop (k + 1)).map (colW 25)).sum + WR) va wa) := HDa
                              clear hoa hKa HO9 HS9 HG9 HN9 HI9
                              go_wp2_with fail
                              go_roundw
                              case rel => exact ⟨k + 1, va, by omega, rfl, by go_num, HDa⟩
                              case measure => simp [intOf]; omega
                            · have tt : (ce != 0) = true := by simpa using he
                              have HE : Hid (B = ([], ce)) := by show _ = _; rw [hce]; exact HDt.out.bad (by rw [← hce]; exact he)
                              clear hN9 hb9 hce he
                              go_wp2_with fail
                              go_ret2
                              exact dput_err HE.out (HBW.out _ HLW.out)
end Go.Proofs.YtnapeecmlkkolaaDoor
