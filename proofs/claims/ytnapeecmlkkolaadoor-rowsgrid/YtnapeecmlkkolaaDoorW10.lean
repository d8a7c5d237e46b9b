/-
  A writer in memory; its methods part and number.
-/
import Derived.Test.YtnapeecmlkkolaaDoorCell10
namespace Go.Proofs.YtnapeecmlkkolaaDoor
open Go.RowKit
set_option maxRecDepth 100000
set_option linter.unusedVariables false
set_option linter.unusedSimpArgs false

/-- A writer in memory: its block p, its slice v; without an error v owns the bytes. -/
structure Wr (w : World) (p : Nat) (v : Value) (S : BE) : Prop where
  blk : w.heap[p]? = some (.cells #[v, .int .i64 S.2] 88 (0, 0))
  far : ∀ k, v.ownBlock = some k → p < k ∧ k < w.heap.size
  shape : ∃ a l c, v = .slice a l c
  own : S.2 = 0 → OwnB w (p + 1) v S.1.length S.1
  nrm : Nrm S
  rng : Rng S.1

/-- What a method of a writer changes: the writer's block, the row of its slice; its new row is the old one, or new. -/
def Chg (p : Nat) (v v' : Value) (w w' : World) : Prop := Kept (fun k => k = p ∨ v.ownBlock = some k) w w' ∧ ∀ k, v'.ownBlock = some k → v.ownBlock = some k ∨ w.heap.size ≤ k

theorem Chg.refl (p : Nat) (v : Value) (w : World) : Chg p v v w w := ⟨Kept.refl _ _, fun k h => .inl h⟩

theorem Chg.trans {p : Nat} {v v' v'' : Value} {a b c : World} (h : Chg p v v' a b) (k : Chg p v' v'' b c) : Chg p v v'' a c := by
  refine ⟨h.1.trans k.1 (fun i hi e => ?_), fun i hi => ?_⟩
  · rcases e with e | e
    · exact .inl e
    · rcases h.2 i e with e | e
      · exact .inr e
      · omega
  · rcases k.2 i hi with e | e
    · exact h.2 i e
    · exact .inr (Nat.le_trans h.1.size e)

theorem chg_new {p : Nat} {v : Value} {w w' : World} (h : Below w.heap.size w w') : Chg p v v w w' := ⟨kept_of h, fun k h => .inl h⟩

theorem Wr.new {w w' : World} {p : Nat} {v : Value} {S : BE} (h : Wr w p v S) (hB : Below w.heap.size w w') : Wr w' p v S :=
  ⟨(hB.block p (block_lt h.blk)).trans h.blk, fun k hk => ⟨(h.far k hk).1, Nat.lt_of_lt_of_le (h.far k hk).2 hB.size⟩, h.shape, fun e => OwnB.grown (h.own e) hB, h.nrm, h.rng⟩

theorem Wr.lt {w : World} {p : Nat} {v : Value} {S : BE} (h : Wr w p v S) : p < w.heap.size := block_lt h.blk

/-- Bytes that are read do not lie in a writer's block. -/
theorem Wr.apart {w : World} {p : Nat} {v : Value} {S : BE} (h : Wr w p v S) {a : Option Addr} {len cap : Nat} {zs : List Int} (hI : IsB w a len cap zs) : ∀ q, a = some q → 0 < len → q.block ≠ p := by
  intro q hq hl e
  obtain ⟨b, off, rfl, hR⟩ := hI.2.2.2.2 hl
  cases hq
  simp only at e
  subst e
  have hc := hR.cell 0 hl
  rw [World.cell?, h.blk] at hc
  obtain ⟨xa, xl, xc, rfl⟩ := h.shape
  match off, hc with
  | 0, hc => simp at hc
  | 1, hc => simp at hc
  | k + 2, hc => simp at hc

theorem Wr.setE {w : World} {p : Nat} {v : Value} {S : BE} (h : Wr w p v S) (hS : S.2 = 0) (e : Int) : Wr (w.setCell ⟨p, 1, none⟩ (.int .i64 e)) p v (seqB S ([], e)) := by
  have hb : (seqB S ([], e)).2 = e := by
    by_cases he : e = 0
    · rw [seqB_ok hS he, he]
    · rw [seqB_no hS he]
  refine ⟨by rw [hb]; exact two_set1 h.blk _, fun k hk => by simpa using h.far k hk, h.shape, fun e0 => ?_, nrm_seq _ _, rng_seq h.rng rng_nil⟩
  rw [hb] at e0
  have e1 : seqB S ([], e) = (S.1 ++ [], 0) := seqB_ok hS e0
  rw [e1, List.append_nil]
  exact (h.own hS).kept (one_kept w p 1 _) (fun k hk e => by have := (h.far k hk).1; omega)

theorem Wr.grow {w w2 : World} {p : Nat} {v v2 : Value} {S : BE} (h : Wr w p v S) (hS : S.2 = 0) {zs : List Int} (hz : Rng zs) {len : Nat} (hl : zs.length = len) (ho : OwnB w2 (p + 1) v2 (S.1.length + len) (S.1 ++ zs)) (hK : Kept (fun k => v.ownBlock = some k) w w2)
    (hv : v2.ownBlock = v.ownBlock ∨ v2.ownBlock = some w.heap.size) : Wr (w2.setCell ⟨p, 0, none⟩ v2) p v2 (seqB S (zs, 0)) ∧ Chg p v v2 w (w2.setCell ⟨p, 0, none⟩ v2) := by
  have e1 : seqB S (zs, 0) = (S.1 ++ zs, 0) := seqB_ok hS rfl
  have hp := h.lt
  have hb : w2.heap[p]? = some (.cells #[v, .int .i64 S.2] 88 (0, 0)) := (hK.block p hp (fun e => by have := (h.far p e).1; omega)).trans h.blk
  have hfar : ∀ k, v2.ownBlock = some k → p + 1 ≤ k ∧ k < w2.heap.size := World.ownsRow.lt ho
  refine ⟨⟨by rw [e1, two_set0 hb, hS], fun k hk => by have := hfar k hk; simp; omega, ?_, fun _ => ?_, nrm_seq _ _, rng_seq h.rng hz⟩, ?_, fun k hk => ?_⟩
  · rcases ho.2 with ⟨rfl, _⟩ | ⟨g, cp, cur, rfl, _⟩ <;> exact ⟨_, _, _, rfl⟩
  · rw [e1]
    simp only [List.length_append]
    rw [hl]
    exact OwnB.kept ho (one_kept w2 p 0 v2) (fun k hk e => by have := (hfar k hk).1; omega)
  · exact (hK.trans (S' := fun _ => False) (Kept.refl _ _) (fun _ _ e => e.elim) |> fun hk => (⟨hk.os, hk.tape, hk.output, hk.size, fun k h1 h2 => hk.block k h1 (fun e => h2 (.inr e))⟩ : Kept (fun k => k = p ∨ v.ownBlock = some k) w w2)).setCell (p := ⟨p, 0, none⟩) (fun _ => .inl rfl) v2
  · rcases hv with e | e
    · exact .inl (e ▸ hk)
    · rw [e] at hk; cases hk; exact .inr (Nat.le_refl _)

theorem OwnB.shape {w : World} {base : Nat} {v : Value} {n : Nat} {X : List Int} (h : OwnB w base v n X) : ∃ a l c, v = .slice a l c := by
  rcases h.2 with ⟨rfl, _⟩ | ⟨g, cp, cur, rfl, _⟩ <;> exact ⟨_, _, _, rfl⟩

theorem seq_part (S : BE) (zs : List Int) (e : Int) : seqB (seqB S (zs, 0)) ([], e) = seqB S (zs, e) := by
  rw [seqB_assoc]
  by_cases he : e = 0
  · subst he; simp [seqB]
  · by_cases hS : S.2 = 0
    · rw [seqB_no (B := (zs, e)) hS he, seqB_no (S := (zs, 0)) rfl he, seqB_no hS he]
    · rw [seqB_err _ hS, seqB_err _ hS]

set_option maxHeartbeats 400000 in
theorem wpart {w : World} {p : Nat} {v : Value} {S : BE} (h : Wr w p v S) {a : Option Addr} {len cap : Nat} {zs : List Int} (hI : IsB w a len cap zs) (hbd : S.1.length + len ≤ 140737488355328) (e : Int) :
    Calls Tryd.prog 61 #[.pointer (some ⟨p, 0, none⟩), .slice a len cap, .int .i64 e] w fun r w' => r = .returned (.tuple #[]) ∧ ∃ v', Hid (Wr w' p v' (seqB S (zs, e))) ∧ Hid (Chg p v v' w w') := by
  obtain ⟨c0, c1, f0, f1⟩ := two_cells h.blk
  have hlt := h.lt
  have H : Hid (Wr w p v S) := h
  have HI : Hid (IsB w a len cap zs) := hI
  have HBD : Hid (S.1.length + len ≤ 140737488355328) := hbd
  clear h hI hbd
  by_cases hS : S.2 = 0
  · rw [hS] at c1
    have HO : Hid (OwnB w (p + 1) v S.1.length S.1) := H.out.own hS
    have HS : Hid (S.2 = 0) := hS
    have hs : p + 1 ≤ w.heap.size := hlt
    clear hS
    go_enter Tryd.func61, Tryd.ntmps61
    go_wp2_with (at_builtin; refine wpList_append_own rfl (.tmp 16) (.tmp 17) rfl rfl HO.out rfl HI.out HBD.out hs ?_)
    intro v2 w2 ho2 hK2 hv2
    obtain ⟨xa2, xl2, xc2, rfl⟩ := ho2.shape
    have hb2 : w2.heap[p]? = some (.cells #[v, .int .i64 S.2] 88 (0, 0)) := (hK2.block p hlt (fun e => by have := (H.out.far p e).1; omega)).trans H.out.blk
    obtain ⟨d0, d1, g0, g1⟩ := two_cells hb2
    have hlt2 := block_lt hb2
    have HG : Hid (Wr (w2.setCell ⟨p, 0, none⟩ (.slice xa2 xl2 xc2)) p (.slice xa2 xl2 xc2) (seqB S (zs, 0)) ∧ Chg p v (.slice xa2 xl2 xc2) w (w2.setCell ⟨p, 0, none⟩ (.slice xa2 xl2 xc2))) := H.out.grow HS.out HI.out.range HI.out.1 ho2 hK2 hv2
    clear ho2 hK2 hv2 hb2
    go_wp2_with fail
    go_end0
    have h2 := HG.out.1.setE (by rw [seqB_ok HS.out rfl]) e
    rw [seq_part] at h2
    refine ⟨rfl, _, h2, ⟨HG.out.2.1.setCell (p := ⟨p, 1, none⟩) (fun _ => .inl rfl) _, HG.out.2.2⟩⟩
  · have t : (S.2 == 0) = false := by simpa using hS
    have HE : Hid (seqB S (zs, e) = S) := seqB_keep H.out.nrm hS
    clear hS
    go_enter Tryd.func61, Tryd.ntmps61
    go_wp2_with fail
    go_end0
    exact ⟨rfl, v, by rw [HE.out]; exact H, Chg.refl _ _ _⟩

theorem wpart_new {w w1 : World} {p : Nat} {v : Value} {S : BE} (h : Wr w p v S) (hB : Below w.heap.size w w1) {a : Option Addr} {len cap : Nat} {zs : List Int} (hI : IsB w1 a len cap zs) (hbd : S.1.length + len ≤ 140737488355328) (e : Int) :
    Calls Tryd.prog 61 #[.pointer (some ⟨p, 0, none⟩), .slice a len cap, .int .i64 e] w1 fun r w' => r = .returned (.tuple #[]) ∧ ∃ v', Hid (Wr w' p v' (seqB S (zs, e))) ∧ Hid (Chg p v v' w w') := by
  refine (wpart (h.new hB) hI hbd e).mono ?_
  rintro r w2 ⟨rfl, v2, HW, HC⟩
  exact ⟨rfl, v2, HW, (chg_new hB).trans HC.out⟩

def intB (x : Int) : BE := (putL x 4, 0)

set_option maxHeartbeats 400000 in
theorem wnumber {w : World} {p : Nat} {v : Value} {S : BE} (h : Wr w p v S) (x : Int) (hx : 0 ≤ x) (hx2 : x ≤ 9223372036854775807) (hbd : S.1.length + 4 ≤ 140737488355328) :
    Calls Tryd.prog 60 #[.pointer (some ⟨p, 0, none⟩), .int .i64 x] w fun r w' => r = .returned (.tuple #[]) ∧ ∃ v', Hid (Wr w' p v' (seqB S (intB x))) ∧ Hid (Chg p v v' w w') := by
  have H : Hid (Wr w p v S) := h
  have HBD : Hid (S.1.length + (putL x 4).length ≤ 140737488355328) := by show _ ≤ _; rw [putL_length]; exact hbd
  have hw : IntKind.u64.wrap x = x := by rw [IntKind.wrap_u64]; omega
  clear h hbd
  go_enter Tryd.func60, Tryd.ntmps60
  go_wp2_with fail
  refine (put_own x 4 _ (by omega) (by omega) hx _ rfl).mono ?_
  rintro e w1 ⟨v1, rfl, ho, hB⟩
  have hl := ho.len
  rw [← hl] at ho
  obtain ⟨a, cp, rfl, hp⟩ := isB_own ho (putL_range x 4)
  have HP : Hid (IsB w1 a (putL x 4).length cp (putL x 4)) := hp
  have HB : Hid (Below w.heap.size w w1) := hB
  clear ho hp hB hl
  go_wp2_with fail
  refine (wpart_new H.out HB.out HP.out HBD.out 0).mono ?_
  rintro r w2 ⟨rfl, v2, HW, HC⟩
  go_wp2_with fail
  go_end0
  exact ⟨rfl, v2, HW, HC⟩

theorem four_range (a b c d : Int) (h : (0 ≤ a ∧ a ≤ 255) ∧ (0 ≤ b ∧ b ≤ 255) ∧ (0 ≤ c ∧ c ≤ 255) ∧ (0 ≤ d ∧ d ≤ 255)) : ∀ j : Nat, 0 ≤ [a, b, c, d][j]?.getD 0 ∧ [a, b, c, d][j]?.getD 0 ≤ 255 := by
  intro j
  match j with
  | 0 => exact h.1
  | 1 => exact h.2.1
  | 2 => exact h.2.2.1
  | 3 => exact h.2.2.2
  | j + 4 => simp

theorem own_isB {w : World} {base : Nat} {v : Value} {n : Nat} {X : List Int} (h : OwnB w base v n X) (hr : ∀ j : Nat, 0 ≤ X[j]?.getD 0 ∧ X[j]?.getD 0 ≤ 255) : ∃ a cp, v = .slice a X.length cp ∧ IsB w a X.length cp X := by
  have hl := h.len
  rw [← hl] at h
  exact isB_own h hr

theorem value_any (x : Int × ByteArray) {a : Option Addr} {l c : Nat} (w : World) (h : IsB w a l c (sNums x.2)) (hsm : x.2.size ≤ 140737488351232) {B : List Int × Int} (hB : B = valueB x) :
    Calls Tryd.prog 62 #[.agg #[.int .i64 x.1, .slice a l c]] w fun e w' => ∃ a cp, e = .returned (.tuple #[.slice a B.1.length cp, .int .i64 B.2]) ∧ Hid (IsB w' a B.1.length cp B.1) ∧ Below w.heap.size w w' := by
  obtain ⟨k, bs⟩ := x
  have hl : l = bs.size := by rw [← h.1, sNums_length]
  subst hB
  by_cases h0 : k = 0
  · subst h0
    refine (value_null a l c w).mono ?_
    rintro e w' ⟨v, rfl, ho, hB⟩
    obtain ⟨a', cp, rfl, hp⟩ := own_isB ho (four_range _ _ _ _ (by omega))
    exact ⟨a', cp, rfl, hp, hB⟩
  by_cases h1 : k = 1
  · subst h1
    refine (value_unset a l c w).mono ?_
    rintro e w' ⟨v, rfl, ho, hB⟩
    obtain ⟨a', cp, rfl, hp⟩ := own_isB ho (four_range _ _ _ _ (by omega))
    exact ⟨a', cp, rfl, hp, hB⟩
  by_cases h2 : k = 2
  · subst h2
    subst hl
    refine (value_set a _ c _ w h hsm).mono ?_
    rintro e w' ⟨v, rfl, ho, hB⟩
    obtain ⟨a', cp, rfl, hp⟩ := own_isB ho (range_append (putL_range _ _) (sNums_range bs))
    exact ⟨a', cp, rfl, hp, hB⟩
  · refine (value_none k a l c w h0 h1 h2).mono ?_
    rintro e w' ⟨rfl, hB⟩
    simp only [valueB, if_neg h0, if_neg h1, if_neg h2]
    exact ⟨none, 0, rfl, isB_nil _, hB⟩

theorem valueB_len (x : Vl) : (valueB x).1.length ≤ 4 + x.2.size := by
  unfold valueB
  split
  · simp
  · split
    · simp
    · split
      · rw [List.length_append, putL_length, sNums_length]; omega
      · simp

theorem seqB_len (A B : BE) : (seqB A B).1.length ≤ A.1.length + B.1.length := by
  unfold seqB
  split
  · split
    · simp
    · simp
  · simp

theorem Chg.low {n p : Nat} {v v' : Value} {S : BE} {w w' : World} (hC : Chg p v v' w w') (h : Wr w p v S) (hn : n ≤ p) : Below n w w' :=
  hC.1.below (by have := h.lt; omega) (fun k hk e => by
    rcases e with e | e
    · omega
    · have := (h.far k e).1; omega)

/-- One behind the other. -/
def goQ {α : Type} (f : α → BE) : List α → BE
  | [] => ([], 0)
  | x :: r => seqB (f x) (goQ f r)
def unitB : BE := ([], 0)
def optB (b : Bool) (B : BE) : BE := if b then B else unitB
def colB (n : Nat) (full : Bool) (c : Col) : BE := seqB (optB full (seqB (textB c.1) (textB c.2.1))) (seqB (textB c.2.2.1) (putR n c.2.2.2))
def colsFrom (n : Nat) (g : Bool) (k : Nat) : List Col → BE
  | [] => unitB
  | c :: r => seqB (colB n (decide (k = 0) || !g) c) (colsFrom n g (k + 1) r)
def rowB (r : List Vl) : BE := goQ valueB r
def rowsB (l : List (List Vl)) : BE := seqB (intB l.length) (goQ rowB l)
def headB (n : Nat) (f : Int) (T : Tb) : BE := seqB (intB f) (seqB (intB T.1) (seqB (optB T.2.2.1 (valueB T.2.2.2.1)) (colsFrom n (bitX f 1) 0 T.2.1)))

/-- What a column, a value, a row costs at most. -/
def colW (n : Nat) (c : Col) : Nat := 196611 + wgt (n + 1) c.2.2.2
def valW (x : Vl) : Nat := 4 + x.2.size
def rowW (r : List Vl) : Nat := (r.map valW).sum

theorem Sees.kept2 {α : Type} {size : Nat} {V : Vw α} (hV : StaysI size V) {w W : World} {F K : Nat → Prop} {a : Option Addr} {len cap : Nat} {xs : List α} (h : Sees size F (V F w) w a len cap xs) (hK : Kept K w W) (hn : ∀ k, k < w.heap.size → F k → ¬ K k) : Sees size F (V F W) W a len cap xs :=
  h.kept hV (fun k hk hf => hK.block k hk (hn k hk hf)) hK.size (fun _ _ hf => hf)

theorem sum_drop2 {α : Type} {xs : List α} {f : α → Nat} {k : Nat} {x : α} (hx : xs[k]? = some x) : ((xs.drop k).map f).sum = f x + ((xs.drop (k + 1)).map f).sum := by
  rw [drop_cons hx, List.map_cons, List.sum_cons]

end Go.Proofs.YtnapeecmlkkolaaDoor
