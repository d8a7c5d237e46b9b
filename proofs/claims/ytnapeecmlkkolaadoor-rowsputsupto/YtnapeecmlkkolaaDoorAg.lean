/-
  W10, W11, W12, W13, W14, laid together.
-/
import Derived.Test.YtnapeecmlkkolaaDoorCell10
import Derived.Test.YtnapeecmlkkolaaDoorCut
import Derived.WalkMore
namespace Go.Proofs.YtnapeecmlkkolaaDoor
open Go.RowKit
set_option maxRecDepth 100000
set_option linter.unusedVariables false
set_option linter.unusedSimpArgs false

/-- A writer in memory: its block p, its slice v; without an error v owns the bytes. -/
structure Wr (w : World) (p : Nat) (v : Value) (S : BE) : Prop where
  blk : w.heap[p]? = some (.cells #[v, .int .i64 S.2] 88 (0, 0))
  far : ∀ k, v.ownBlock = some k → p < k ∧ k < w.heap.size
  shape : ∃ a l c, v = .slice a l c
  own : S.2 = 0 → OwnB w (p + 1) v S.1.length S.1
  nrm : Nrm S
  rng : Rng S.1

/-- What a method of a writer changes: the writer's block, the row of its slice; its new row is the old one, or new. -/
def Chg (p : Nat) (v v' : Value) (w w' : World) : Prop := Kept (fun k => k = p ∨ v.ownBlock = some k) w w' ∧ ∀ k, v'.ownBlock = some k → v.ownBlock = some k ∨ w.heap.size ≤ k

theorem Chg.refl (p : Nat) (v : Value) (w : World) : Chg p v v w w := ⟨Kept.refl _ _, fun k h => .inl h⟩

theorem Chg.trans {p : Nat} {v v' v'' : Value} {a b c : World} (h : Chg p v v' a b) (k : Chg p v' v'' b c) : Chg p v v'' a c := by
  refine ⟨h.1.trans k.1 (fun i hi e => ?_), fun i hi => ?_⟩
  · rcases e with e | e
    · exact .inl e
    · rcases h.2 i e with e | e
      · exact .inr e
      · omega
  · rcases k.2 i hi with e | e
    · exact h.2 i e
    · exact .inr (Nat.le_trans h.1.size e)

theorem chg_new {p : Nat} {v : Value} {w w' : World} (h : Below w.heap.size w w') : Chg p v v w w' := ⟨kept_of h, fun k h => .inl h⟩

theorem Wr.new {w w' : World} {p : Nat} {v : Value} {S : BE} (h : Wr w p v S) (hB : Below w.heap.size w w') : Wr w' p v S :=
  ⟨(hB.block p (block_lt h.blk)).trans h.blk, fun k hk => ⟨(h.far k hk).1, Nat.lt_of_lt_of_le (h.far k hk).2 hB.size⟩, h.shape, fun e => OwnB.grown (h.own e) hB, h.nrm, h.rng⟩

theorem Wr.lt {w : World} {p : Nat} {v : Value} {S : BE} (h : Wr w p v S) : p < w.heap.size := block_lt h.blk

/-- Bytes that are read do not lie in a writer's block. -/
theorem Wr.apart {w : World} {p : Nat} {v : Value} {S : BE} (h : Wr w p v S) {a : Option Addr} {len cap : Nat} {zs : List Int} (hI : IsB w a len cap zs) : ∀ q, a = some q → 0 < len → q.block ≠ p := by
  intro q hq hl e
  obtain ⟨b, off, rfl, hR⟩ := hI.2.2.2.2 hl
  cases hq
  simp only at e
  subst e
  have hc := hR.cell 0 hl
  rw [World.cell?, h.blk] at hc
  obtain ⟨xa, xl, xc, rfl⟩ := h.shape
  match off, hc with
  | 0, hc => simp at hc
  | 1, hc => simp at hc
  | k + 2, hc => simp at hc

theorem Wr.setE {w : World} {p : Nat} {v : Value} {S : BE} (h : Wr w p v S) (hS : S.2 = 0) (e : Int) : Wr (w.setCell ⟨p, 1, none⟩ (.int .i64 e)) p v (seqB S ([], e)) := by
  have hb : (seqB S ([], e)).2 = e := by
    by_cases he : e = 0
    · rw [seqB_ok hS he, he]
    · rw [seqB_no hS he]
  refine ⟨by rw [hb]; exact two_set1 h.blk _, fun k hk => by simpa using h.far k hk, h.shape, fun e0 => ?_, nrm_seq _ _, rng_seq h.rng rng_nil⟩
  rw [hb] at e0
  have e1 : seqB S ([], e) = (S.1 ++ [], 0) := seqB_ok hS e0
  rw [e1, List.append_nil]
  exact (h.own hS).kept (one_kept w p 1 _) (fun k hk e => by have := (h.far k hk).1; omega)

theorem Wr.grow {w w2 : World} {p : Nat} {v v2 : Value} {S : BE} (h : Wr w p v S) (hS : S.2 = 0) {zs : List Int} (hz : Rng zs) {len : Nat} (hl : zs.length = len) (ho : OwnB w2 (p + 1) v2 (S.1.length + len) (S.1 ++ zs)) (hK : Kept (fun k => v.ownBlock = some k) w w2)
    (hv : v2.ownBlock = v.ownBlock ∨ v2.ownBlock = some w.heap.size) : Wr (w2.setCell ⟨p, 0, none⟩ v2) p v2 (seqB S (zs, 0)) ∧ Chg p v v2 w (w2.setCell ⟨p, 0, none⟩ v2) := by
  have e1 : seqB S (zs, 0) = (S.1 ++ zs, 0) := seqB_ok hS rfl
  have hp := h.lt
  have hb : w2.heap[p]? = some (.cells #[v, .int .i64 S.2] 88 (0, 0)) := (hK.block p hp (fun e => by have := (h.far p e).1; omega)).trans h.blk
  have hfar : ∀ k, v2.ownBlock = some k → p + 1 ≤ k ∧ k < w2.heap.size := World.ownsRow.lt ho
  refine ⟨⟨by rw [e1, two_set0 hb, hS], fun k hk => by have := hfar k hk; simp; omega, ?_, fun _ => ?_, nrm_seq _ _, rng_seq h.rng hz⟩, ?_, fun k hk => ?_⟩
  · rcases ho.2 with ⟨rfl, _⟩ | ⟨g, cp, cur, rfl, _⟩ <;> exact ⟨_, _, _, rfl⟩
  · rw [e1]
    simp only [List.length_append]
    rw [hl]
    exact OwnB.kept ho (one_kept w2 p 0 v2) (fun k hk e => by have := (hfar k hk).1; omega)
  · exact (hK.trans (S' := fun _ => False) (Kept.refl _ _) (fun _ _ e => e.elim) |> fun hk => (⟨hk.os, hk.tape, hk.output, hk.size, fun k h1 h2 => hk.block k h1 (fun e => h2 (.inr e))⟩ : Kept (fun k => k = p ∨ v.ownBlock = some k) w w2)).setCell (p := ⟨p, 0, none⟩) (fun _ => .inl rfl) v2
  · rcases hv with e | e
    · exact .inl (e ▸ hk)
    · rw [e] at hk; cases hk; exact .inr (Nat.le_refl _)

theorem OwnB.shape {w : World} {base : Nat} {v : Value} {n : Nat} {X : List Int} (h : OwnB w base v n X) : ∃ a l c, v = .slice a l c := by
  rcases h.2 with ⟨rfl, _⟩ | ⟨g, cp, cur, rfl, _⟩ <;> exact ⟨_, _, _, rfl⟩

theorem seq_part (S : BE) (zs : List Int) (e : Int) : seqB (seqB S (zs, 0)) ([], e) = seqB S (zs, e) := by
  rw [seqB_assoc]
  by_cases he : e = 0
  · subst he; simp [seqB]
  · by_cases hS : S.2 = 0
    · rw [seqB_no (B := (zs, e)) hS he, seqB_no (S := (zs, 0)) rfl he, seqB_no hS he]
    · rw [seqB_err _ hS, seqB_err _ hS]

set_option maxHeartbeats 400000 in
theorem wpart {w : World} {p : Nat} {v : Value} {S : BE} (h : Wr w p v S) {a : Option Addr} {len cap : Nat} {zs : List Int} (hI : IsB w a len cap zs) (hbd : S.1.length + len ≤ 140737488355328) (e : Int) :
    Calls Tryd.prog 61 #[.pointer (some ⟨p, 0, none⟩), .slice a len cap, .int .i64 e] w fun r w' => r = .returned (.tuple #[]) ∧ ∃ v', Hid (Wr w' p v' (seqB S (zs, e))) ∧ Hid (Chg p v v' w w') := by
  obtain ⟨c0, c1, f0, f1⟩ := two_cells h.blk
  have hlt := h.lt
  have H : Hid (Wr w p v S) := h
  have HI : Hid (IsB w a len cap zs) := hI
  have HBD : Hid (S.1.length + len ≤ 140737488355328) := hbd
  clear h hI hbd
  by_cases hS : S.2 = 0
  · rw [hS] at c1
    have HO : Hid (OwnB w (p + 1) v S.1.length S.1) := H.out.own hS
    have HS : Hid (S.2 = 0) := hS
    have hs : p + 1 ≤ w.heap.size := hlt
    clear hS
    go_enter Tryd.func61, Tryd.ntmps61
    go_wp2_with (at_builtin; refine wpList_append_own rfl (.tmp 16) (.tmp 17) rfl rfl HO.out rfl HI.out HBD.out hs ?_)
    intro v2 w2 ho2 hK2 hv2
    obtain ⟨xa2, xl2, xc2, rfl⟩ := ho2.shape
    have hb2 : w2.heap[p]? = some (.cells #[v, .int .i64 S.2] 88 (0, 0)) := (hK2.block p hlt (fun e => by have := (H.out.far p e).1; omega)).trans H.out.blk
    obtain ⟨d0, d1, g0, g1⟩ := two_cells hb2
    have hlt2 := block_lt hb2
    have HG : Hid (Wr (w2.setCell ⟨p, 0, none⟩ (.slice xa2 xl2 xc2)) p (.slice xa2 xl2 xc2) (seqB S (zs, 0)) ∧ Chg p v (.slice xa2 xl2 xc2) w (w2.setCell ⟨p, 0, none⟩ (.slice xa2 xl2 xc2))) := H.out.grow HS.out HI.out.range HI.out.1 ho2 hK2 hv2
    clear ho2 hK2 hv2 hb2
    go_wp2_with fail
    go_end0
    have h2 := HG.out.1.setE (by rw [seqB_ok HS.out rfl]) e
    rw [seq_part] at h2
    refine ⟨rfl, _, h2, ⟨HG.out.2.1.setCell (p := ⟨p, 1, none⟩) (fun _ => .inl rfl) _, HG.out.2.2⟩⟩
  · have t : (S.2 == 0) = false := by simpa using hS
    have HE : Hid (seqB S (zs, e) = S) := seqB_keep H.out.nrm hS
    clear hS
    go_enter Tryd.func61, Tryd.ntmps61
    go_wp2_with fail
    go_end0
    exact ⟨rfl, v, by rw [HE.out]; exact H, Chg.refl _ _ _⟩

theorem wpart_new {w w1 : World} {p : Nat} {v : Value} {S : BE} (h : Wr w p v S) (hB : Below w.heap.size w w1) {a : Option Addr} {len cap : Nat} {zs : List Int} (hI : IsB w1 a len cap zs) (hbd : S.1.length + len ≤ 140737488355328) (e : Int) :
    Calls Tryd.prog 61 #[.pointer (some ⟨p, 0, none⟩), .slice a len cap, .int .i64 e] w1 fun r w' => r = .returned (.tuple #[]) ∧ ∃ v', Hid (Wr w' p v' (seqB S (zs, e))) ∧ Hid (Chg p v v' w w') := by
  refine (wpart (h.new hB) hI hbd e).mono ?_
  rintro r w2 ⟨rfl, v2, HW, HC⟩
  exact ⟨rfl, v2, HW, (chg_new hB).trans HC.out⟩

def intB (x : Int) : BE := (putL x 4, 0)

set_option maxHeartbeats 400000 in
theorem wnumber {w : World} {p : Nat} {v : Value} {S : BE} (h : Wr w p v S) (x : Int) (hx : 0 ≤ x) (hx2 : x ≤ 9223372036854775807) (hbd : S.1.length + 4 ≤ 140737488355328) :
    Calls Tryd.prog 60 #[.pointer (some ⟨p, 0, none⟩), .int .i64 x] w fun r w' => r = .returned (.tuple #[]) ∧ ∃ v', Hid (Wr w' p v' (seqB S (intB x))) ∧ Hid (Chg p v v' w w') := by
  have H : Hid (Wr w p v S) := h
  have HBD : Hid (S.1.length + (putL x 4).length ≤ 140737488355328) := by show _ ≤ _; rw [putL_length]; exact hbd
  have hw : IntKind.u64.wrap x = x := by rw [IntKind.wrap_u64]; omega
  clear h hbd
  go_enter Tryd.func60, Tryd.ntmps60
  go_wp2_with fail
  refine (put_own x 4 _ (by omega) (by omega) hx _ rfl).mono ?_
  rintro e w1 ⟨v1, rfl, ho, hB⟩
  have hl := ho.len
  rw [← hl] at ho
  obtain ⟨a, cp, rfl, hp⟩ := isB_own ho (putL_range x 4)
  have HP : Hid (IsB w1 a (putL x 4).length cp (putL x 4)) := hp
  have HB : Hid (Below w.heap.size w w1) := hB
  clear ho hp hB hl
  go_wp2_with fail
  refine (wpart_new H.out HB.out HP.out HBD.out 0).mono ?_
  rintro r w2 ⟨rfl, v2, HW, HC⟩
  go_wp2_with fail
  go_end0
  exact ⟨rfl, v2, HW, HC⟩

theorem four_range (a b c d : Int) (h : (0 ≤ a ∧ a ≤ 255) ∧ (0 ≤ b ∧ b ≤ 255) ∧ (0 ≤ c ∧ c ≤ 255) ∧ (0 ≤ d ∧ d ≤ 255)) : ∀ j : Nat, 0 ≤ [a, b, c, d][j]?.getD 0 ∧ [a, b, c, d][j]?.getD 0 ≤ 255 := by
  intro j
  match j with
  | 0 => exact h.1
  | 1 => exact h.2.1
  | 2 => exact h.2.2.1
  | 3 => exact h.2.2.2
  | j + 4 => simp

theorem own_isB {w : World} {base : Nat} {v : Value} {n : Nat} {X : List Int} (h : OwnB w base v n X) (hr : ∀ j : Nat, 0 ≤ X[j]?.getD 0 ∧ X[j]?.getD 0 ≤ 255) : ∃ a cp, v = .slice a X.length cp ∧ IsB w a X.length cp X := by
  have hl := h.len
  rw [← hl] at h
  exact isB_own h hr

theorem value_any (x : Int × ByteArray) {a : Option Addr} {l c : Nat} (w : World) (h : IsB w a l c (sNums x.2)) (hsm : x.2.size ≤ 140737488351232) {B : List Int × Int} (hB : B = valueB x) :
    Calls Tryd.prog 62 #[.agg #[.int .i64 x.1, .slice a l c]] w fun e w' => ∃ a cp, e = .returned (.tuple #[.slice a B.1.length cp, .int .i64 B.2]) ∧ Hid (IsB w' a B.1.length cp B.1) ∧ Below w.heap.size w w' := by
  obtain ⟨k, bs⟩ := x
  have hl : l = bs.size := by rw [← h.1, sNums_length]
  subst hB
  by_cases h0 : k = 0
  · subst h0
    refine (value_null a l c w).mono ?_
    rintro e w' ⟨v, rfl, ho, hB⟩
    obtain ⟨a', cp, rfl, hp⟩ := own_isB ho (four_range _ _ _ _ (by omega))
    exact ⟨a', cp, rfl, hp, hB⟩
  by_cases h1 : k = 1
  · subst h1
    refine (value_unset a l c w).mono ?_
    rintro e w' ⟨v, rfl, ho, hB⟩
    obtain ⟨a', cp, rfl, hp⟩ := own_isB ho (four_range _ _ _ _ (by omega))
    exact ⟨a', cp, rfl, hp, hB⟩
  by_cases h2 : k = 2
  · subst h2
    subst hl
    refine (value_set a _ c _ w h hsm).mono ?_
    rintro e w' ⟨v, rfl, ho, hB⟩
    obtain ⟨a', cp, rfl, hp⟩ := own_isB ho (range_append (putL_range _ _) (sNums_range bs))
    exact ⟨a', cp, rfl, hp, hB⟩
  · refine (value_none k a l c w h0 h1 h2).mono ?_
    rintro e w' ⟨rfl, hB⟩
    simp only [valueB, if_neg h0, if_neg h1, if_neg h2]
    exact ⟨none, 0, rfl, isB_nil _, hB⟩

theorem valueB_len (x : Vl) : (valueB x).1.length ≤ 4 + x.2.size := by
  unfold valueB
  split
  · simp
  · split
    · simp
    · split
      · rw [List.length_append, putL_length, sNums_length]; omega
      · simp

theorem seqB_len (A B : BE) : (seqB A B).1.length ≤ A.1.length + B.1.length := by
  unfold seqB
  split
  · split
    · simp
    · simp
  · simp

theorem Chg.low {n p : Nat} {v v' : Value} {S : BE} {w w' : World} (hC : Chg p v v' w w') (h : Wr w p v S) (hn : n ≤ p) : Below n w w' :=
  hC.1.below (by have := h.lt; omega) (fun k hk e => by
    rcases e with e | e
    · omega
    · have := (h.far k e).1; omega)

/-- One behind the other. -/
def goQ {α : Type} (f : α → BE) : List α → BE
  | [] => ([], 0)
  | x :: r => seqB (f x) (goQ f r)
def unitB : BE := ([], 0)
def optB (b : Bool) (B : BE) : BE := if b then B else unitB
def colB (n : Nat) (full : Bool) (c : Col) : BE := seqB (optB full (seqB (textB c.1) (textB c.2.1))) (seqB (textB c.2.2.1) (putR n c.2.2.2))
def colsFrom (n : Nat) (g : Bool) (k : Nat) : List Col → BE
  | [] => unitB
  | c :: r => seqB (colB n (decide (k = 0) || !g) c) (colsFrom n g (k + 1) r)
def rowB (r : List Vl) : BE := goQ valueB r
def rowsB (l : List (List Vl)) : BE := seqB (intB l.length) (goQ rowB l)
def headB (n : Nat) (f : Int) (T : Tb) : BE := seqB (intB f) (seqB (intB T.1) (seqB (optB T.2.2.1 (valueB T.2.2.2.1)) (colsFrom n (bitX f 1) 0 T.2.1)))

/-- What a column, a value, a row costs at most. -/
def colW (n : Nat) (c : Col) : Nat := 196611 + wgt (n + 1) c.2.2.2
def valW (x : Vl) : Nat := 4 + x.2.size
def rowW (r : List Vl) : Nat := (r.map valW).sum

theorem Sees.kept2 {α : Type} {size : Nat} {V : Vw α} (hV : StaysI size V) {w W : World} {F K : Nat → Prop} {a : Option Addr} {len cap : Nat} {xs : List α} (h : Sees size F (V F w) w a len cap xs) (hK : Kept K w W) (hn : ∀ k, k < w.heap.size → F k → ¬ K k) : Sees size F (V F W) W a len cap xs :=
  h.kept hV (fun k hk hf => hK.block k hk (hn k hk hf)) hK.size (fun _ _ hf => hf)

theorem sum_drop2 {α : Type} {xs : List α} {f : α → Nat} {k : Nat} {x : α} (hx : xs[k]? = some x) : ((xs.drop k).map f).sum = f x + ((xs.drop (k + 1)).map f).sum := by
  rw [drop_cons hx, List.map_cons, List.sum_cons]

end Go.Proofs.YtnapeecmlkkolaaDoor

namespace Go.Proofs.YtnapeecmlkkolaaDoor
open Go.RowKit
set_option maxRecDepth 100000
set_option linter.unusedVariables false
set_option linter.unusedSimpArgs false

theorem BE_eta (B : BE) : (B.1, B.2) = B := rfl
set_option maxHeartbeats 4000000 in
theorem wcolumns {n : Nat} {w : World} {p : Nat} {v : Value} {S : BE} (h : Wr w p v S) (hT : Tab w) (hp0 : 0 < p) {a : Option Addr} {len cap : Nat} {xs : List Col} (hX : Sees 8 (fun z => z < p) (VCol (n + 1) (fun z => z < p) w) w a len cap xs) (gl : Bool)
    (hbd : S.1.length + (xs.map (colW n)).sum ≤ 140737488355328) {R : BE} (hR : R = seqB S (colsFrom n gl 0 xs)) :
    Calls Tryd.prog 63 #[.pointer (some ⟨p, 0, none⟩), .slice a len cap, .bool gl] w fun r w' => r = .returned (.tuple #[]) ∧ ∃ v', Hid (Wr w' p v' R) ∧ Hid (Chg p v v' w w') := by
  have HW : Hid (Wr w p v S) := h
  have HX : Hid (Sees 8 (fun z => z < p) (VCol (n + 1) (fun z => z < p) w) w a len cap xs) := hX
  have HT : Hid (Tab w) := hT
  have HR0 : Hid (seqB S (colsFrom n gl 0 (xs.drop 0)) = R) := by show _ = _; rw [List.drop_zero]; exact hR.symm
  have HB0 : Hid (S.1.length + ((xs.drop 0).map (colW n)).sum ≤ 140737488355328) := by show _ ≤ _; rw [List.drop_zero]; exact hbd
  have hml := hX.max
  unfold maxLen at hml
  have HLN : Hid (xs.length = len) := hX.1
  clear h hX hT hR hbd
  go_enter Tryd.func63, Tryd.ntmps63
  go_wp2_with fail
  go_loopw [10] (fun i wr => ∃ (k : Nat) (Sk : BE) (u : Value), k ≤ len ∧ i = .int .i64 k ∧ Hid (Wr wr p u Sk) ∧ Hid (Sees 8 (fun z => z < p) (VCol (n + 1) (fun z => z < p) wr) wr a len cap xs) ∧ Hid (Tab wr) ∧ Hid (seqB Sk (colsFrom n gl k (xs.drop k)) = R) ∧ Hid (Sk.1.length + ((xs.drop k).map (colW n)).sum ≤ 140737488355328) ∧ Hid (Chg p v u w wr)) (fun i _ => len - (intOf i).toNat)
  case atStart => exact ⟨0, S, v, by omega, rfl, HW, HX, HT, HR0, HB0, Chg.refl _ _ _⟩
  case round =>
    obtain ⟨k, S0, u0, hk, rfl, HWk, HXk, HTk, HRk, HBk, HCk⟩ := hrel
    by_cases hlt2 : k < len
    · obtain ⟨s, t, nm, X, b8, off, na, nl, nc, ka, kl, kc, hx, rfl, hbs, hF, ⟨c0, c1, c2, c3, c4, c5, c6, c7⟩, hsz, hty⟩ := HXk.out.col hlt2
      have HXD : Hid (xs.drop k = (s, t, nm, X) :: xs.drop (k + 1)) := drop_cons hx
      obtain ⟨CV, hCV⟩ : ∃ CV, CV = colB n (decide (k = 0) || !gl) (s, t, nm, X) := ⟨_, rfl⟩
      have HCV0 : Hid (CV = colB n (decide (k = 0) || !gl) (s, t, nm, X)) := hCV
      have HRC : Hid (seqB (seqB S0 CV) (colsFrom n gl (k + 1) (xs.drop (k + 1))) = R) := by
        show _ = _
        rw [seqB_assoc, ← HRk.out, HXD.out, hCV]
        rfl
      clear hCV
      have HSZ : Hid (s.size ≤ maxLen ∧ t.size ≤ maxLen ∧ nm.size ≤ maxLen) := hsz
      obtain ⟨W, hW⟩ : ∃ W, W = ((xs.drop (k + 1)).map (colW n)).sum := ⟨_, rfl⟩
      have HWW : Hid (W = ((xs.drop (k + 1)).map (colW n)).sum) := hW
      have HB1 : Hid (S0.1.length + (196611 + wgt (n + 1) X + W) ≤ 140737488355328) := by
        have := HBk.out
        rw [sum_drop2 hx, ← hW] at this
        exact this
      obtain ⟨g, hg⟩ : ∃ g, g = wr.heap.size := ⟨_, rfl⟩
      have HGE : Hid (wr.heap.size = g) := hg.symm
      obtain ⟨w0, hw0⟩ : ∃ w0, w0 = wr.alloc (.cells #[.string s, .string t, .string nm, .int .u16 X.id, .string X.space, .string X.name, .slice na nl nc, .slice ka kl kc] 64) := ⟨_, rfl⟩
      have HW0E : Hid (wr.alloc (.cells #[.string s, .string t, .string nm, .int .u16 X.id, .string X.space, .string X.name, .slice na nl nc, .slice ka kl kc] 64) = w0) := hw0.symm
      have hB0 : Below wr.heap.size wr w0 := by rw [hw0]; exact below_one _ _
      have HG0 : Hid (w0.heap[g]? = some (.cells #[.string s, .string t, .string nm, .int .u16 X.id, .string X.space, .string X.name, .slice na nl nc, .slice ka kl kc] 64 (0, 0))) := by rw [hw0, hg]; exact heap_alloc_new wr _
      have HW0 : Hid (Wr w0 p u0 S0) := HWk.out.new hB0
      have HPG : Hid (p < g) := by have := HWk.out.lt; show p < g; omega
      have HFR0 : Hid (u0.ownBlock ≠ some g) := fun e => by have := (HWk.out.far g e).2; omega
      have HTYX : Hid (TyAt n (fun z => z < p) w0 X na nl nc ka kl kc) := hty.old hB0
      have HTBX : Hid (Tab w0) := HTk.out.old hB0
      have HSX : Hid (Sees 8 (fun z => z < p) (VCol (n + 1) (fun z => z < p) w0) w0 (some ⟨b8, off, none⟩) len cap xs) := HXk.out.kept (stays_col (n + 1)) (fun z hz _ => hB0.block z hz) hB0.size (fun _ _ hf => hf)
      have HCW : Hid (Chg p v u0 w w0) := HCk.out.trans (chg_new hB0)
      obtain ⟨⟨k0, k1, k2, k3, k4, k5, k6, k7⟩, _⟩ := blk8 HG0.out
      have hgl0 := block_lt HG0.out
      clear hx hsz hty hF hW hg hw0 hB0 HWk HXk HTk HCk HBk
      by_cases hful : k = 0 ∨ gl = false
      · have HCV : Hid (CV = colB n true (s, t, nm, X)) := by show _ = _; rw [HCV0.out]; rcases hful with e | e <;> simp [e]
        have HBD0 : Hid (S0.1.length + (196611 + wgt (n + 1) X + W) ≤ 140737488355328) := HB1
        by_cases hk0 : k = 0
        · subst hk0
          simp only [Nat.zero_mul, Nat.add_zero] at c0 c1 c2 c3 c4 c5 c6 c7
          clear hful
          go_upto_region 3 with fail
          rw [HW0E.out]
          (try rw [HGE.out])
          clear HW0E
          go_wp2_with fail
          refine (text_any s _ HSZ.out.1 rfl).mono ?_
          rintro e wa1 ⟨a1, cp1, rfl, HP1, hBa1⟩
          have HBa1 : Hid (Below w0.heap.size w0 wa1) := hBa1
          have hga1 : wa1.heap[g]? = some (.cells #[.string s, .string t, .string nm, .int .u16 X.id, .string X.space, .string X.name, .slice na nl nc, .slice ka kl kc] 64 (0, 0)) := (hBa1.block g (block_lt HG0.out)).trans HG0.out
          obtain ⟨⟨k0, k1, k2, k3, k4, k5, k6, k7⟩, _⟩ := blk8 hga1
          have hgl1 := block_lt hga1
          clear hBa1 hga1
          go_wp2_with fail
          refine (wpart_new HW0.out HBa1.out HP1.out (by have := textB_len s; have := HBD0.out; omega) _).mono ?_
          rintro r w1 ⟨rfl, v1, HW1, HC1⟩
          rw [BE_eta] at HW1
          have HG1 : Hid (w1.heap[g]? = some (.cells #[.string s, .string t, .string nm, .int .u16 X.id, .string X.space, .string X.name, .slice na nl nc, .slice ka kl kc] 64 (0, 0))) := (HC1.out.1.block g (block_lt HG0.out) (fun e => by rcases e with e | e; have := HPG.out; omega; exact HFR0.out e)).trans HG0.out
          have HFR1 : Hid (v1.ownBlock ≠ some g) := fun e => by rcases HC1.out.2 g e with e | e; exact HFR0.out e; have := block_lt HG0.out; omega
          have HBD1 : Hid ((seqB S0 (textB s)).1.length + (131074 + wgt (n + 1) X + W) ≤ 140737488355328) := by
            have h1 := seqB_len S0 (textB s)
            have h2 := textB_len s
            have h3 := HBD0.out
            show _ ≤ _
            omega
          obtain ⟨S1, hS1⟩ : ∃ Z, Z = seqB S0 (textB s) := ⟨_, rfl⟩
          have HS1 : Hid (S1 = seqB S0 (textB s)) := hS1
          rw [← hS1] at HW1 HBD1
          obtain ⟨⟨k0, k1, k2, k3, k4, k5, k6, k7⟩, _⟩ := blk8 HG1.out
          have hgm1 := block_lt HG1.out
          clear hS1 hgl1
          go_wp2_with fail
          refine (text_any t _ HSZ.out.2.1 rfl).mono ?_
          rintro e wa2 ⟨a2, cp2, rfl, HP2, hBa2⟩
          have HBa2 : Hid (Below w1.heap.size w1 wa2) := hBa2
          have hga2 : wa2.heap[g]? = some (.cells #[.string s, .string t, .string nm, .int .u16 X.id, .string X.space, .string X.name, .slice na nl nc, .slice ka kl kc] 64 (0, 0)) := (hBa2.block g (block_lt HG1.out)).trans HG1.out
          obtain ⟨⟨k0, k1, k2, k3, k4, k5, k6, k7⟩, _⟩ := blk8 hga2
          have hgl2 := block_lt hga2
          clear hBa2 hga2
          go_wp2_with fail
          refine (wpart_new HW1.out HBa2.out HP2.out (by have := textB_len t; have := HBD1.out; omega) _).mono ?_
          rintro r w2 ⟨rfl, v2, HW2, HC2⟩
          rw [BE_eta] at HW2
          have HG2 : Hid (w2.heap[g]? = some (.cells #[.string s, .string t, .string nm, .int .u16 X.id, .string X.space, .string X.name, .slice na nl nc, .slice ka kl kc] 64 (0, 0))) := (HC2.out.1.block g (block_lt HG1.out) (fun e => by rcases e with e | e; have := HPG.out; omega; exact HFR1.out e)).trans HG1.out
          have HFR2 : Hid (v2.ownBlock ≠ some g) := fun e => by rcases HC2.out.2 g e with e | e; exact HFR1.out e; have := block_lt HG1.out; omega
          have HBD2 : Hid ((seqB S1 (textB t)).1.length + (65537 + wgt (n + 1) X + W) ≤ 140737488355328) := by
            have h1 := seqB_len S1 (textB t)
            have h2 := textB_len t
            have h3 := HBD1.out
            show _ ≤ _
            omega
          obtain ⟨S2, hS2⟩ : ∃ Z, Z = seqB S1 (textB t) := ⟨_, rfl⟩
          have HS2 : Hid (S2 = seqB S1 (textB t)) := hS2
          rw [← hS2] at HW2 HBD2
          obtain ⟨⟨k0, k1, k2, k3, k4, k5, k6, k7⟩, _⟩ := blk8 HG2.out
          have hgm2 := block_lt HG2.out
          clear hS2 hgl2
          go_wp2_with fail
          refine (text_any nm _ HSZ.out.2.2 rfl).mono ?_
          rintro e wa3 ⟨a3, cp3, rfl, HP3, hBa3⟩
          have HBa3 : Hid (Below w2.heap.size w2 wa3) := hBa3
          have hga3 : wa3.heap[g]? = some (.cells #[.string s, .string t, .string nm, .int .u16 X.id, .string X.space, .string X.name, .slice na nl nc, .slice ka kl kc] 64 (0, 0)) := (hBa3.block g (block_lt HG2.out)).trans HG2.out
          obtain ⟨⟨k0, k1, k2, k3, k4, k5, k6, k7⟩, _⟩ := blk8 hga3
          have hgl3 := block_lt hga3
          clear hBa3 hga3
          go_wp2_with fail
          refine (wpart_new HW2.out HBa3.out HP3.out (by have := textB_len nm; have := HBD2.out; omega) _).mono ?_
          rintro r w3 ⟨rfl, v3, HW3, HC3⟩
          rw [BE_eta] at HW3
          have HG3 : Hid (w3.heap[g]? = some (.cells #[.string s, .string t, .string nm, .int .u16 X.id, .string X.space, .string X.name, .slice na nl nc, .slice ka kl kc] 64 (0, 0))) := (HC3.out.1.block g (block_lt HG2.out) (fun e => by rcases e with e | e; have := HPG.out; omega; exact HFR2.out e)).trans HG2.out
          have HFR3 : Hid (v3.ownBlock ≠ some g) := fun e => by rcases HC3.out.2 g e with e | e; exact HFR2.out e; have := block_lt HG2.out; omega
          have HBD3 : Hid ((seqB S2 (textB nm)).1.length + (0 + wgt (n + 1) X + W) ≤ 140737488355328) := by
            have h1 := seqB_len S2 (textB nm)
            have h2 := textB_len nm
            have h3 := HBD2.out
            show _ ≤ _
            omega
          obtain ⟨S3, hS3⟩ : ∃ Z, Z = seqB S2 (textB nm) := ⟨_, rfl⟩
          have HS3 : Hid (S3 = seqB S2 (textB nm)) := hS3
          rw [← hS3] at HW3 HBD3
          obtain ⟨⟨k0, k1, k2, k3, k4, k5, k6, k7⟩, _⟩ := blk8 HG3.out
          have hgm3 := block_lt HG3.out
          clear hS3 hgl3
          have HTY4 : Hid (TyAt n (fun z => z < p) w3 X na nl nc ka kl kc) := by
            have h0 := HTYX.out
            have h1 := h0.apart HC1.out.1 (fun z _ hz e => by rcases e with e | e; omega; have := (HW0.out.far z e).1; omega)
            have h2 := h1.apart HC2.out.1 (fun z _ hz e => by rcases e with e | e; omega; have := (HW1.out.far z e).1; omega)
            have h3 := h2.apart HC3.out.1 (fun z _ hz e => by rcases e with e | e; omega; have := (HW2.out.far z e).1; omega)
            exact h3
          have HTB4 : Hid (Tab w3) := by
            have h0 := HTBX.out
            have h1 := h0.kept HC1.out.1 (fun e => by rcases e with e | e; omega; have := (HW0.out.far 0 e).1; omega)
            have h2 := h1.kept HC2.out.1 (fun e => by rcases e with e | e; omega; have := (HW1.out.far 0 e).1; omega)
            have h3 := h2.kept HC3.out.1 (fun e => by rcases e with e | e; omega; have := (HW2.out.far 0 e).1; omega)
            exact h3
          go_wp2_with fail
          refine (Put_any HTY4.out HTB4.out (by have := HBD3.out; omega) rfl).mono ?_
          rintro e wa4 ⟨vb, rfl, HA4, hBa4⟩
          obtain ⟨a4, cp4, rfl, hIb⟩ := isB_own HA4.out (putR_range n X)
          obtain ⟨LL, hLL⟩ : ∃ LL, LL = (putR n X).1.length := ⟨_, rfl⟩
          rw [← hLL] at hIb ⊢
          have HP4 : Hid (IsB wa4 a4 LL cp4 (putR n X).1) := hIb
          have HLL : Hid (LL = (putR n X).1.length) := hLL
          have HBa4 : Hid (Below w3.heap.size w3 wa4) := hBa4
          clear hBa4 hIb hLL
          go_wp2_with fail
          refine (wpart_new HW3.out HBa4.out HP4.out (by have := putR_len (n := n) (t := X); have := HBD3.out; have := HLL.out; omega) _).mono ?_
          rintro r w4 ⟨rfl, v4, HW4, HC4⟩
          rw [BE_eta] at HW4
          have HBD4 : Hid ((seqB S3 (putR n X)).1.length + W ≤ 140737488355328) := by
            have h1 := seqB_len S3 (putR n X)
            have h2 := putR_len (n := n) (t := X)
            have h3 := HBD3.out
            show _ ≤ _
            omega
          have HEQ : Hid (seqB S3 (putR n X) = seqB S0 CV) := by
            show _ = _
            rw [HCV.out, HS3.out, HS2.out, HS1.out]
            unfold colB optB
            rw [if_pos rfl]
            simp only [seqB_assoc]
          rw [HEQ.out] at HW4 HBD4
          have HBN : Hid ((seqB S0 CV).1.length + ((xs.drop (0 + 1)).map (colW n)).sum ≤ 140737488355328) := by rw [← HWW.out]; exact HBD4
          have HCC : Hid (Chg p u0 v4 w0 w4) := (((HC1.out.trans HC2.out).trans HC3.out).trans HC4.out)
          have HCT : Hid (Chg p v v4 w w4) := HCW.out.trans HCC.out
          have HSN : Hid (Sees 8 (fun z => z < p) (VCol (n + 1) (fun z => z < p) w4) w4 (some ⟨b8, off, none⟩) len cap xs) := HSX.out.kept2 (stays_col (n + 1)) HCC.out.1 (fun z _ hz e => by rcases e with e | e; omega; have := (HW0.out.far z e).1; omega)
          have HTN : Hid (Tab w4) := HTBX.out.kept HCC.out.1 (fun e => by rcases e with e | e; omega; have := (HW0.out.far 0 e).1; omega)
          go_wp2_with fail
          go_roundw
          case rel => exact ⟨0 + 1, _, v4, by omega, by go_num, HW4, HSN, HTN, HRC, HBN, HCT⟩
          case measure => simp [intOf]; omega

        · have hg0 : gl = false := by rcases hful with e | e; exact absurd e hk0; exact e
          subst hg0
          have t0 : ((k : Int) == 0) = false := by simp; omega
          clear hful
          go_upto_region 3 with fail
          rw [HW0E.out]
          (try rw [HGE.out])
          clear HW0E
          go_wp2_with fail
          refine (text_any s _ HSZ.out.1 rfl).mono ?_
          rintro e wa1 ⟨a1, cp1, rfl, HP1, hBa1⟩
          have HBa1 : Hid (Below w0.heap.size w0 wa1) := hBa1
          have hga1 : wa1.heap[g]? = some (.cells #[.string s, .string t, .string nm, .int .u16 X.id, .string X.space, .string X.name, .slice na nl nc, .slice ka kl kc] 64 (0, 0)) := (hBa1.block g (block_lt HG0.out)).trans HG0.out
          obtain ⟨⟨k0, k1, k2, k3, k4, k5, k6, k7⟩, _⟩ := blk8 hga1
          have hgl1 := block_lt hga1
          clear hBa1 hga1
          go_wp2_with fail
          refine (wpart_new HW0.out HBa1.out HP1.out (by have := textB_len s; have := HBD0.out; omega) _).mono ?_
          rintro r w1 ⟨rfl, v1, HW1, HC1⟩
          rw [BE_eta] at HW1
          have HG1 : Hid (w1.heap[g]? = some (.cells #[.string s, .string t, .string nm, .int .u16 X.id, .string X.space, .string X.name, .slice na nl nc, .slice ka kl kc] 64 (0, 0))) := (HC1.out.1.block g (block_lt HG0.out) (fun e => by rcases e with e | e; have := HPG.out; omega; exact HFR0.out e)).trans HG0.out
          have HFR1 : Hid (v1.ownBlock ≠ some g) := fun e => by rcases HC1.out.2 g e with e | e; exact HFR0.out e; have := block_lt HG0.out; omega
          have HBD1 : Hid ((seqB S0 (textB s)).1.length + (131074 + wgt (n + 1) X + W) ≤ 140737488355328) := by
            have h1 := seqB_len S0 (textB s)
            have h2 := textB_len s
            have h3 := HBD0.out
            show _ ≤ _
            omega
          obtain ⟨S1, hS1⟩ : ∃ Z, Z = seqB S0 (textB s) := ⟨_, rfl⟩
          have HS1 : Hid (S1 = seqB S0 (textB s)) := hS1
          rw [← hS1] at HW1 HBD1
          obtain ⟨⟨k0, k1, k2, k3, k4, k5, k6, k7⟩, _⟩ := blk8 HG1.out
          have hgm1 := block_lt HG1.out
          clear hS1 hgl1
          go_wp2_with fail
          refine (text_any t _ HSZ.out.2.1 rfl).mono ?_
          rintro e wa2 ⟨a2, cp2, rfl, HP2, hBa2⟩
          have HBa2 : Hid (Below w1.heap.size w1 wa2) := hBa2
          have hga2 : wa2.heap[g]? = some (.cells #[.string s, .string t, .string nm, .int .u16 X.id, .string X.space, .string X.name, .slice na nl nc, .slice ka kl kc] 64 (0, 0)) := (hBa2.block g (block_lt HG1.out)).trans HG1.out
          obtain ⟨⟨k0, k1, k2, k3, k4, k5, k6, k7⟩, _⟩ := blk8 hga2
          have hgl2 := block_lt hga2
          clear hBa2 hga2
          go_wp2_with fail
          refine (wpart_new HW1.out HBa2.out HP2.out (by have := textB_len t; have := HBD1.out; omega) _).mono ?_
          rintro r w2 ⟨rfl, v2, HW2, HC2⟩
          rw [BE_eta] at HW2
          have HG2 : Hid (w2.heap[g]? = some (.cells #[.string s, .string t, .string nm, .int .u16 X.id, .string X.space, .string X.name, .slice na nl nc, .slice ka kl kc] 64 (0, 0))) := (HC2.out.1.block g (block_lt HG1.out) (fun e => by rcases e with e | e; have := HPG.out; omega; exact HFR1.out e)).trans HG1.out
          have HFR2 : Hid (v2.ownBlock ≠ some g) := fun e => by rcases HC2.out.2 g e with e | e; exact HFR1.out e; have := block_lt HG1.out; omega
          have HBD2 : Hid ((seqB S1 (textB t)).1.length + (65537 + wgt (n + 1) X + W) ≤ 140737488355328) := by
            have h1 := seqB_len S1 (textB t)
            have h2 := textB_len t
            have h3 := HBD1.out
            show _ ≤ _
            omega
          obtain ⟨S2, hS2⟩ : ∃ Z, Z = seqB S1 (textB t) := ⟨_, rfl⟩
          have HS2 : Hid (S2 = seqB S1 (textB t)) := hS2
          rw [← hS2] at HW2 HBD2
          obtain ⟨⟨k0, k1, k2, k3, k4, k5, k6, k7⟩, _⟩ := blk8 HG2.out
          have hgm2 := block_lt HG2.out
          clear hS2 hgl2
          go_wp2_with fail
          refine (text_any nm _ HSZ.out.2.2 rfl).mono ?_
          rintro e wa3 ⟨a3, cp3, rfl, HP3, hBa3⟩
          have HBa3 : Hid (Below w2.heap.size w2 wa3) := hBa3
          have hga3 : wa3.heap[g]? = some (.cells #[.string s, .string t, .string nm, .int .u16 X.id, .string X.space, .string X.name, .slice na nl nc, .slice ka kl kc] 64 (0, 0)) := (hBa3.block g (block_lt HG2.out)).trans HG2.out
          obtain ⟨⟨k0, k1, k2, k3, k4, k5, k6, k7⟩, _⟩ := blk8 hga3
          have hgl3 := block_lt hga3
          clear hBa3 hga3
          go_wp2_with fail
          refine (wpart_new HW2.out HBa3.out HP3.out (by have := textB_len nm; have := HBD2.out; omega) _).mono ?_
          rintro r w3 ⟨rfl, v3, HW3, HC3⟩
          rw [BE_eta] at HW3
          have HG3 : Hid (w3.heap[g]? = some (.cells #[.string s, .string t, .string nm, .int .u16 X.id, .string X.space, .string X.name, .slice na nl nc, .slice ka kl kc] 64 (0, 0))) := (HC3.out.1.block g (block_lt HG2.out) (fun e => by rcases e with e | e; have := HPG.out; omega; exact HFR2.out e)).trans HG2.out
          have HFR3 : Hid (v3.ownBlock ≠ some g) := fun e => by rcases HC3.out.2 g e with e | e; exact HFR2.out e; have := block_lt HG2.out; omega
          have HBD3 : Hid ((seqB S2 (textB nm)).1.length + (0 + wgt (n + 1) X + W) ≤ 140737488355328) := by
            have h1 := seqB_len S2 (textB nm)
            have h2 := textB_len nm
            have h3 := HBD2.out
            show _ ≤ _
            omega
          obtain ⟨S3, hS3⟩ : ∃ Z, Z = seqB S2 (textB nm) := ⟨_, rfl⟩
          have HS3 : Hid (S3 = seqB S2 (textB nm)) := hS3
          rw [← hS3] at HW3 HBD3
          obtain ⟨⟨k0, k1, k2, k3, k4, k5, k6, k7⟩, _⟩ := blk8 HG3.out
          have hgm3 := block_lt HG3.out
          clear hS3 hgl3
          have HTY4 : Hid (TyAt n (fun z => z < p) w3 X na nl nc ka kl kc) := by
            have h0 := HTYX.out
            have h1 := h0.apart HC1.out.1 (fun z _ hz e => by rcases e with e | e; omega; have := (HW0.out.far z e).1; omega)
            have h2 := h1.apart HC2.out.1 (fun z _ hz e => by rcases e with e | e; omega; have := (HW1.out.far z e).1; omega)
            have h3 := h2.apart HC3.out.1 (fun z _ hz e => by rcases e with e | e; omega; have := (HW2.out.far z e).1; omega)
            exact h3
          have HTB4 : Hid (Tab w3) := by
            have h0 := HTBX.out
            have h1 := h0.kept HC1.out.1 (fun e => by rcases e with e | e; omega; have := (HW0.out.far 0 e).1; omega)
            have h2 := h1.kept HC2.out.1 (fun e => by rcases e with e | e; omega; have := (HW1.out.far 0 e).1; omega)
            have h3 := h2.kept HC3.out.1 (fun e => by rcases e with e | e; omega; have := (HW2.out.far 0 e).1; omega)
            exact h3
          go_wp2_with fail
          refine (Put_any HTY4.out HTB4.out (by have := HBD3.out; omega) rfl).mono ?_
          rintro e wa4 ⟨vb, rfl, HA4, hBa4⟩
          obtain ⟨a4, cp4, rfl, hIb⟩ := isB_own HA4.out (putR_range n X)
          obtain ⟨LL, hLL⟩ : ∃ LL, LL = (putR n X).1.length := ⟨_, rfl⟩
          rw [← hLL] at hIb ⊢
          have HP4 : Hid (IsB wa4 a4 LL cp4 (putR n X).1) := hIb
          have HLL : Hid (LL = (putR n X).1.length) := hLL
          have HBa4 : Hid (Below w3.heap.size w3 wa4) := hBa4
          clear hBa4 hIb hLL
          go_wp2_with fail
          refine (wpart_new HW3.out HBa4.out HP4.out (by have := putR_len (n := n) (t := X); have := HBD3.out; have := HLL.out; omega) _).mono ?_
          rintro r w4 ⟨rfl, v4, HW4, HC4⟩
          rw [BE_eta] at HW4
          have HBD4 : Hid ((seqB S3 (putR n X)).1.length + W ≤ 140737488355328) := by
            have h1 := seqB_len S3 (putR n X)
            have h2 := putR_len (n := n) (t := X)
            have h3 := HBD3.out
            show _ ≤ _
            omega
          have HEQ : Hid (seqB S3 (putR n X) = seqB S0 CV) := by
            show _ = _
            rw [HCV.out, HS3.out, HS2.out, HS1.out]
            unfold colB optB
            rw [if_pos rfl]
            simp only [seqB_assoc]
          rw [HEQ.out] at HW4 HBD4
          have HBN : Hid ((seqB S0 CV).1.length + ((xs.drop (k + 1)).map (colW n)).sum ≤ 140737488355328) := by rw [← HWW.out]; exact HBD4
          have HCC : Hid (Chg p u0 v4 w0 w4) := (((HC1.out.trans HC2.out).trans HC3.out).trans HC4.out)
          have HCT : Hid (Chg p v v4 w w4) := HCW.out.trans HCC.out
          have HSN : Hid (Sees 8 (fun z => z < p) (VCol (n + 1) (fun z => z < p) w4) w4 (some ⟨b8, off, none⟩) len cap xs) := HSX.out.kept2 (stays_col (n + 1)) HCC.out.1 (fun z _ hz e => by rcases e with e | e; omega; have := (HW0.out.far z e).1; omega)
          have HTN : Hid (Tab w4) := HTBX.out.kept HCC.out.1 (fun e => by rcases e with e | e; omega; have := (HW0.out.far 0 e).1; omega)
          go_wp2_with fail
          go_roundw
          case rel => exact ⟨k + 1, _, v4, by omega, by go_num, HW4, HSN, HTN, HRC, HBN, HCT⟩
          case measure => simp [intOf]; omega

      · have hk0 : ¬ k = 0 := fun e => hful (.inl e)
        obtain rfl : gl = true := by cases gl; exact absurd (.inr rfl) hful; rfl
        have t0 : ((k : Int) == 0) = false := by simp; omega
        have HCV : Hid (CV = colB n false (s, t, nm, X)) := by show _ = _; rw [HCV0.out]; simp [hk0]
        have HBD0 : Hid (S0.1.length + (65537 + wgt (n + 1) X + W) ≤ 140737488355328) := by have := HB1.out; show _ ≤ _; omega
        clear hful
        go_upto_region 3 with fail
        rw [HW0E.out]
        (try rw [HGE.out])
        clear HW0E
        go_wp2_with fail
        refine (text_any nm _ HSZ.out.2.2 rfl).mono ?_
        rintro e wa1 ⟨a1, cp1, rfl, HP1, hBa1⟩
        have HBa1 : Hid (Below w0.heap.size w0 wa1) := hBa1
        have hga1 : wa1.heap[g]? = some (.cells #[.string s, .string t, .string nm, .int .u16 X.id, .string X.space, .string X.name, .slice na nl nc, .slice ka kl kc] 64 (0, 0)) := (hBa1.block g (block_lt HG0.out)).trans HG0.out
        obtain ⟨⟨k0, k1, k2, k3, k4, k5, k6, k7⟩, _⟩ := blk8 hga1
        have hgl1 := block_lt hga1
        clear hBa1 hga1
        go_wp2_with fail
        refine (wpart_new HW0.out HBa1.out HP1.out (by have := textB_len nm; have := HBD0.out; omega) _).mono ?_
        rintro r w1 ⟨rfl, v1, HW1, HC1⟩
        rw [BE_eta] at HW1
        have HG1 : Hid (w1.heap[g]? = some (.cells #[.string s, .string t, .string nm, .int .u16 X.id, .string X.space, .string X.name, .slice na nl nc, .slice ka kl kc] 64 (0, 0))) := (HC1.out.1.block g (block_lt HG0.out) (fun e => by rcases e with e | e; have := HPG.out; omega; exact HFR0.out e)).trans HG0.out
        have HFR1 : Hid (v1.ownBlock ≠ some g) := fun e => by rcases HC1.out.2 g e with e | e; exact HFR0.out e; have := block_lt HG0.out; omega
        have HBD1 : Hid ((seqB S0 (textB nm)).1.length + (0 + wgt (n + 1) X + W) ≤ 140737488355328) := by
          have h1 := seqB_len S0 (textB nm)
          have h2 := textB_len nm
          have h3 := HBD0.out
          show _ ≤ _
          omega
        obtain ⟨S1, hS1⟩ : ∃ Z, Z = seqB S0 (textB nm) := ⟨_, rfl⟩
        have HS1 : Hid (S1 = seqB S0 (textB nm)) := hS1
        rw [← hS1] at HW1 HBD1
        obtain ⟨⟨k0, k1, k2, k3, k4, k5, k6, k7⟩, _⟩ := blk8 HG1.out
        have hgm1 := block_lt HG1.out
        clear hS1 hgl1
        have HTY2 : Hid (TyAt n (fun z => z < p) w1 X na nl nc ka kl kc) := by
          have h0 := HTYX.out
          have h1 := h0.apart HC1.out.1 (fun z _ hz e => by rcases e with e | e; omega; have := (HW0.out.far z e).1; omega)
          exact h1
        have HTB2 : Hid (Tab w1) := by
          have h0 := HTBX.out
          have h1 := h0.kept HC1.out.1 (fun e => by rcases e with e | e; omega; have := (HW0.out.far 0 e).1; omega)
          exact h1
        go_wp2_with fail
        refine (Put_any HTY2.out HTB2.out (by have := HBD1.out; omega) rfl).mono ?_
        rintro e wa2 ⟨vb, rfl, HA2, hBa2⟩
        obtain ⟨a2, cp2, rfl, hIb⟩ := isB_own HA2.out (putR_range n X)
        obtain ⟨LL, hLL⟩ : ∃ LL, LL = (putR n X).1.length := ⟨_, rfl⟩
        rw [← hLL] at hIb ⊢
        have HP2 : Hid (IsB wa2 a2 LL cp2 (putR n X).1) := hIb
        have HLL : Hid (LL = (putR n X).1.length) := hLL
        have HBa2 : Hid (Below w1.heap.size w1 wa2) := hBa2
        clear hBa2 hIb hLL
        go_wp2_with fail
        refine (wpart_new HW1.out HBa2.out HP2.out (by have := putR_len (n := n) (t := X); have := HBD1.out; have := HLL.out; omega) _).mono ?_
        rintro r w2 ⟨rfl, v2, HW2, HC2⟩
        rw [BE_eta] at HW2
        have HBD2 : Hid ((seqB S1 (putR n X)).1.length + W ≤ 140737488355328) := by
          have h1 := seqB_len S1 (putR n X)
          have h2 := putR_len (n := n) (t := X)
          have h3 := HBD1.out
          show _ ≤ _
          omega
        have HEQ : Hid (seqB S1 (putR n X) = seqB S0 CV) := by
          show _ = _
          rw [HCV.out, HS1.out]
          unfold colB optB
          rw [if_neg (by decide)]
          simp only [unitB, unit_seqB (nrm_seq _ _), seqB_assoc]
        rw [HEQ.out] at HW2 HBD2
        have HBN : Hid ((seqB S0 CV).1.length + ((xs.drop (k + 1)).map (colW n)).sum ≤ 140737488355328) := by rw [← HWW.out]; exact HBD2
        have HCC : Hid (Chg p u0 v2 w0 w2) := (HC1.out.trans HC2.out)
        have HCT : Hid (Chg p v v2 w w2) := HCW.out.trans HCC.out
        have HSN : Hid (Sees 8 (fun z => z < p) (VCol (n + 1) (fun z => z < p) w2) w2 (some ⟨b8, off, none⟩) len cap xs) := HSX.out.kept2 (stays_col (n + 1)) HCC.out.1 (fun z _ hz e => by rcases e with e | e; omega; have := (HW0.out.far z e).1; omega)
        have HTN : Hid (Tab w2) := HTBX.out.kept HCC.out.1 (fun e => by rcases e with e | e; omega; have := (HW0.out.far 0 e).1; omega)
        go_wp2_with fail
        go_roundw
        case rel => exact ⟨k + 1, _, v2, by omega, by go_num, HW2, HSN, HTN, HRC, HBN, HCT⟩
        case measure => simp [intOf]; omega

    · have HE : Hid (R = S0) := by
        show _ = _
        rw [← HRk.out, List.drop_eq_nil_of_le (by rw [HLN.out]; omega)]
        exact seqB_unit HWk.out.nrm
      go_wp2_with fail
      go_end0
      exact ⟨rfl, u0, by rw [HE.out]; exact HWk, HCk⟩

end Go.Proofs.YtnapeecmlkkolaaDoor

namespace Go.Proofs.YtnapeecmlkkolaaDoor
open Go.RowKit
set_option maxRecDepth 100000
set_option linter.unusedVariables false
set_option linter.unusedSimpArgs false

theorem seqB_dead {S : BE} (hS : Nrm S) (h : S.2 ≠ 0) (B : BE) : seqB S B = S := seqB_keep hS h

set_option maxHeartbeats 4000000 in
theorem wrows {w : World} {p : Nat} {v : Value} {S : BE} (h : Wr w p v S) {a : Option Addr} {len cap : Nat} {xs : List (List Vl)} (hX : Sees 1 (fun z => z < p) (VRowS (fun z => z < p) w) w a len cap xs)
    (hsm : ∀ r ∈ xs, ∀ V ∈ r, V.2.size ≤ 140737488351232) (hbd : S.1.length + 4 + (xs.map rowW).sum ≤ 140737488355328) {R : BE} (hR : R = seqB S (rowsB xs)) :
    Calls Tryd.prog 34 #[.pointer (some ⟨p, 0, none⟩), .slice a len cap] w fun r w' => r = .returned (.tuple #[]) ∧ ∃ v', Hid (Wr w' p v' R) ∧ Hid (Chg p v v' w w') := by
  have HW : Hid (Wr w p v S) := h
  have HX : Hid (Sees 1 (fun z => z < p) (VRowS (fun z => z < p) w) w a len cap xs) := hX
  have HSM : Hid (∀ r ∈ xs, ∀ V ∈ r, V.2.size ≤ 140737488351232) := hsm
  have HRE : Hid (R = seqB S (rowsB xs)) := hR
  have HBD : Hid (S.1.length + 4 + (xs.map rowW).sum ≤ 140737488355328) := hbd
  have hml := hX.max
  unfold maxLen at hml
  have HLN : Hid (xs.length = len) := hX.1
  clear h hX hR hbd hsm
  go_enter Tryd.func34, Tryd.ntmps34
  go_step3
  go_wp2_with fail
  refine (wnumber HW.out (len : Int) (by omega) (by omega) (by have := HBD.out; omega)).mono ?_
  rintro r w1 ⟨rfl, v1, HW1, HC1⟩
  have HX1 : Hid (Sees 1 (fun z => z < p) (VRowS (fun z => z < p) w1) w1 a len cap xs) := HX.out.kept2 stays_rowS HC1.out.1 (fun z _ hz e => by rcases e with e | e; omega; have := (HW.out.far z e).1; omega)
  have HB1 : Hid ((seqB S (intB len)).1.length + ((xs.drop 0).map rowW).sum ≤ 140737488355328) := by
    have h1 := seqB_len S (intB len)
    have h2 : (intB len).1.length = 4 := putL_length _ _
    have h3 := HBD.out
    show _ ≤ _
    rw [List.drop_zero]
    omega
  have HR1 : Hid (seqB (seqB S (intB len)) (goQ rowB (xs.drop 0)) = R) := by
    show _ = _
    rw [HRE.out, List.drop_zero, rowsB, HLN.out, seqB_assoc]
  clear HX HRE HBD
  go_wp2_with fail
  go_step3
  go_wp2_with fail
  go_loopw [14] (fun i wr => ∃ (k : Nat) (Sk : BE) (u : Value), k ≤ len ∧ i = .int .i64 k ∧ Hid (Wr wr p u Sk) ∧ Hid (Sees 1 (fun z => z < p) (VRowS (fun z => z < p) wr) wr a len cap xs) ∧ Hid (seqB Sk (goQ rowB (xs.drop k)) = R) ∧ Hid (Sk.1.length + ((xs.drop k).map rowW).sum ≤ 140737488355328) ∧ Hid (Chg p v u w wr)) (fun i _ => len - (intOf i).toNat)
  case atStart => exact ⟨0, _, v1, by omega, rfl, HW1, HX1, HR1, HB1, HC1⟩
  case round =>
    obtain ⟨k, Sk, u, hk, rfl, HWk, HXk, HRk, HBk, HCk⟩ := hrel
    by_cases hlt2 : k < len
    · obtain ⟨wo, hwo⟩ : ∃ wo, wo = wr := ⟨_, rfl⟩
      subst hwo
      obtain ⟨r, br, ofr, y, ly, cy, hx, rfl, hbr, _, crow, hrow⟩ := HXk.out.row hlt2
      have HXD : Hid (xs.drop k = r :: xs.drop (k + 1)) := drop_cons hx
      have HSR : Hid (∀ V ∈ r, V.2.size ≤ 140737488351232) := HSM.out r (List.mem_of_getElem? hx)
      obtain ⟨W, hW⟩ : ∃ W, W = ((xs.drop (k + 1)).map rowW).sum := ⟨_, rfl⟩
      have HWW : Hid (W = ((xs.drop (k + 1)).map rowW).sum) := hW
      have HJB : Hid (Sk.1.length + (((r.drop 0).map valW).sum + W) ≤ 140737488355328) := by
        have := HBk.out
        rw [sum_drop2 hx, ← hW] at this
        exact this
      obtain ⟨R2, hR2⟩ : ∃ R2, R2 = seqB Sk (rowB r) := ⟨_, rfl⟩
      have HJ0 : Hid (seqB Sk (goQ valueB (r.drop 0)) = R2) := hR2.symm
      have HRN : Hid (seqB R2 (goQ rowB (xs.drop (k + 1))) = R) := by
        show _ = _
        rw [hR2, seqB_assoc, ← HRk.out, HXD.out]
        rfl
      have HROW : Hid (Sees 2 (fun z => z < p) (VVal (fun z => z < p) wo) wo y ly cy r) := hrow
      have hmy := hrow.max
      unfold maxLen at hmy
      have HLY : Hid (r.length = ly) := hrow.1
      clear hx hW hR2 hrow HBk
      go_wp2_with fail
      go_loopw [20] (fun j wr => ∃ (l : Nat) (Sl : BE) (u2 : Value), l ≤ ly ∧ j = .int .i64 l ∧ Hid (Wr wr p u2 Sl) ∧ Hid (Sees 2 (fun z => z < p) (VVal (fun z => z < p) wr) wr y ly cy r) ∧ Hid (Sees 1 (fun z => z < p) (VRowS (fun z => z < p) wr) wr (some ⟨br, ofr, none⟩) len cap xs) ∧ Hid (seqB Sl (goQ valueB (r.drop l)) = R2) ∧ Hid (Sl.1.length + (((r.drop l).map valW).sum + W) ≤ 140737488355328) ∧ Hid (Chg p v u2 w wr)) (fun j _ => ly - (intOf j).toNat)
      case atStart => exact ⟨0, Sk, u, by omega, rfl, HWk, HROW, HXk, HJ0, HJB, HCk⟩
      case round =>
        obtain ⟨l, Sl, u2, hl, rfl, HWl, HYl, HXl, HJl, HBl, HCl⟩ := hrel
        by_cases hlt3 : l < ly
        · obtain ⟨V, bv, ofv, vx, vl, vc, hv, rfl, hbv, _, d0, d1, hIV⟩ := HYl.out.val hlt3
          have HVD : Hid (r.drop l = V :: r.drop (l + 1)) := drop_cons hv
          have HVS : Hid (V.2.size ≤ 140737488351232) := HSR.out V (List.mem_of_getElem? hv)
          obtain ⟨g, hg⟩ : ∃ g, g = wr.heap.size := ⟨_, rfl⟩
          have HGE : Hid (wr.heap.size = g) := hg.symm
          obtain ⟨w3, hw3⟩ : ∃ w3, w3 = wr.alloc (.cells #[.int .i64 V.1, .slice vx vl vc] 26) := ⟨_, rfl⟩
          have HW3E : Hid (wr.alloc (.cells #[.int .i64 V.1, .slice vx vl vc] 26) = w3) := hw3.symm
          have hB3 : Below wr.heap.size wr w3 := by rw [hw3]; exact below_one _ _
          have hg3 : w3.heap[g]? = some (.cells #[.int .i64 V.1, .slice vx vl vc] 26 (0, 0)) := by rw [hw3, hg]; exact heap_alloc_new wr _
          obtain ⟨e0, e1, _, _⟩ := two_cells hg3
          have hlg := block_lt hg3
          have HI3 : Hid (IsB w3 vx vl vc (sNums V.2)) := hIV.1.old hB3
          have HW3 : Hid (Wr w3 p u2 Sl) := HWl.out.new hB3
          have HX3 : Hid (Sees 1 (fun z => z < p) (VRowS (fun z => z < p) w3) w3 (some ⟨br, ofr, none⟩) len cap xs) := HXl.out.kept stays_rowS (fun z hz _ => hB3.block z hz) hB3.size (fun _ _ hf => hf)
          have HY3 : Hid (Sees 2 (fun z => z < p) (VVal (fun z => z < p) w3) w3 (some ⟨bv, ofv, none⟩) ly cy r) := HYl.out.kept stays_val (fun z hz _ => hB3.block z hz) hB3.size (fun _ _ hf => hf)
          have HC3 : Hid (Chg p v u2 w w3) := HCl.out.trans (chg_new hB3)
          obtain ⟨B, hB⟩ : ∃ B, B = valueB V := ⟨_, rfl⟩
          have HBV : Hid (B = valueB V) := hB
          have HBL : Hid (Sl.1.length + (B.1.length + (((r.drop (l + 1)).map valW).sum + W)) ≤ 140737488355328) := by
            have h1 := HBl.out
            rw [sum_drop2 hv] at h1
            have h2 := valueB_len V
            unfold valW at h1
            show _ ≤ _
            rw [hB]
            unfold valW
            omega
          have HJN : Hid (seqB (seqB Sl B) (goQ valueB (r.drop (l + 1))) = R2) := by
            show _ = _
            rw [seqB_assoc, ← HJl.out, HVD.out, hB]
            rfl
          clear hv hg hw3 hB3 hg3 hIV hB HWl HYl HXl HCl HBl
          go_upto_region 7 with fail
          rw [HW3E.out]
          (try rw [HGE.out])
          clear HW3E
          go_wp2_with fail
          refine (value_any V _ HI3.out HVS.out HBV.out).mono ?_
          rintro e wa ⟨a3, cp3, rfl, HP3, hBa⟩
          have HBa : Hid (Below w3.heap.size w3 wa) := hBa
          clear hBa
          go_wp2_with fail
          refine (wpart_new HW3.out HBa.out HP3.out (by have := HBL.out; omega) _).mono ?_
          rintro rr w4 ⟨rfl, u4, HW4, HC4⟩
          rw [BE_eta] at HW4
          have HC4w : Hid (Chg p v u4 w w4) := HC3.out.trans HC4.out
          have HX4 : Hid (Sees 1 (fun z => z < p) (VRowS (fun z => z < p) w4) w4 (some ⟨br, ofr, none⟩) len cap xs) := HX3.out.kept2 stays_rowS HC4.out.1 (fun z _ hz e => by rcases e with e | e; omega; have := (HW3.out.far z e).1; omega)
          have HY4 : Hid (Sees 2 (fun z => z < p) (VVal (fun z => z < p) w4) w4 (some ⟨bv, ofv, none⟩) ly cy r) := HY3.out.kept2 stays_val HC4.out.1 (fun z _ hz e => by rcases e with e | e; omega; have := (HW3.out.far z e).1; omega)
          have HB4 : Hid ((seqB Sl B).1.length + (((r.drop (l + 1)).map valW).sum + W) ≤ 140737488355328) := by
            have h1 := seqB_len Sl B
            have h2 := HBL.out
            show _ ≤ _
            omega
          obtain ⟨S4, hS4⟩ : ∃ S4, S4 = seqB Sl B := ⟨_, rfl⟩
          rw [← hS4] at HW4 HB4 HJN
          have hN4 : Nrm S4 := by rw [hS4]; exact nrm_seq _ _
          have HN4 : Hid (Nrm S4) := hN4
          obtain ⟨k0, k1, kf0, kf1⟩ := two_cells HW4.out.blk
          have hlp4 := HW4.out.lt
          clear hS4 hN4
          by_cases hE : S4.2 = 0
          · rw [hE] at k1
            clear hE
            go_wp2_with fail
            go_roundw
            case rel => exact ⟨l + 1, S4, u4, by omega, by go_num, HW4, HY4, HX4, HJN, HB4, HC4w⟩
            case measure => simp [intOf]; omega
          · have t : (S4.2 != 0) = true := by simpa using hE
            have HE : Hid (R = S4) := by
              show _ = _
              have h1 : R2 = S4 := by rw [← HJN.out, seqB_dead HN4.out hE]
              rw [← HRN.out, h1, seqB_dead HN4.out hE]
            clear hE
            go_wp2_with fail
            try rw [Exit.noGoto_normal]
            go_end0
            exact ⟨rfl, u4, by rw [HE.out]; exact HW4, HC4w⟩
        · have HE : Hid (Sl = R2) := by
            show _ = _
            rw [← HJl.out, List.drop_eq_nil_of_le (by rw [HLY.out]; omega)]
            exact (seqB_unit HWl.out.nrm).symm
          have HBN : Hid (Sl.1.length + ((xs.drop (k + 1)).map rowW).sum ≤ 140737488355328) := by
            have := HBl.out
            rw [HWW.out] at this
            show _ ≤ _
            omega
          have HRN2 : Hid (seqB Sl (goQ rowB (xs.drop (k + 1))) = R) := by rw [HE.out]; exact HRN
          go_wp2_with fail
          go_roundw
          case rel => exact ⟨k + 1, Sl, u2, by omega, by go_num, HWl, HXl, HRN2, HBN, HCl⟩
          case measure => simp [intOf]; omega
    · have HE : Hid (R = Sk) := by
        show _ = _
        rw [← HRk.out, List.drop_eq_nil_of_le (by rw [HLN.out]; omega)]
        exact seqB_unit HWk.out.nrm
      go_wp2_with fail
      try rw [Exit.noGoto_normal]
      go_end0
      exact ⟨rfl, u, by rw [HE.out]; exact HWk, HCk⟩

end Go.Proofs.YtnapeecmlkkolaaDoor

namespace Go.Proofs.YtnapeecmlkkolaaDoor
open Go.RowKit
set_option maxRecDepth 100000
set_option linter.unusedVariables false
set_option linter.unusedSimpArgs false

def idxV : List Vl → Nat → Int
  | [], _ => -1
  | x :: r, k => if x.1 = 1 then k else idxV r (k + 1)
def unB (r : List Vl) : Bool := r.any (fun x => x.1 == 1)
theorem idxV_un : ∀ (r : List Vl) (k : Nat), unB r = decide (0 ≤ idxV r k)
  | [], k => by simp [unB, idxV]
  | x :: r, k => by
    have ih := idxV_un r (k + 1)
    unfold idxV
    by_cases h : x.1 = 1
    · rw [if_pos h]; simp [unB, h]
    · rw [if_neg h, ← ih]; simp [unB, h]
theorem idxV_hi : ∀ (r : List Vl) (k : Nat), -1 ≤ idxV r k ∧ idxV r k < (k + r.length : Nat)
  | [], k => ⟨by unfold idxV; omega, by unfold idxV; omega⟩
  | x :: r, k => by
    unfold idxV
    have := idxV_hi r (k + 1)
    rw [List.length_cons]
    split <;> omega

set_option maxHeartbeats 1000000 in
theorem idxv_any {F : Nat → Prop} {w : World} {a : Option Addr} {len cap : Nat} {xs : List Vl} (h : Sees 2 F (VVal F w) w a len cap xs) {R : Int} (hR : R = idxV xs 0) :
    Calls Tryd.prog 79 #[.slice a len cap, .func (.func 49) #[] #[]] w fun e w' => e = .returned (.int .i64 R) ∧ Hid (Below w.heap.size w w') := by
  have H : Hid (Sees 2 F (VVal F w) w a len cap xs) := h
  have HR0 : Hid (idxV (xs.drop 0) 0 = R) := by show _ = _; rw [List.drop_zero]; exact hR.symm
  have hml := h.max
  unfold maxLen at hml
  have HLN : Hid (xs.length = len) := h.1
  clear h hR
  go_enter Tryd.func79, Tryd.ntmps79
  go_wp2_with fail
  go_loopw [8] (fun i wr => ∃ k : Nat, k ≤ len ∧ i = .int .i64 k ∧ Hid (idxV (xs.drop k) k = R) ∧ Hid (Below w.heap.size w wr)) (fun i _ => len - (intOf i).toNat)
  case atStart => exact ⟨0, by omega, rfl, HR0, Below.refl _ _⟩
  case round =>
    obtain ⟨k, hk, rfl, HI, HBk⟩ := hrel
    by_cases hlt2 : k < len
    · obtain ⟨V, b8, off, x, lx, cx, hx, rfl, hbs, hF, c0, c1, hiv⟩ := (H.out.kept stays_val (F' := F) (fun k hk _ => HBk.out.block k hk) HBk.out.size (fun _ _ hf => hf)).val hlt2
      obtain ⟨d, hd⟩ : ∃ d, d = (V.1 == 1) := ⟨_, rfl⟩
      have HD : Hid (d = (V.1 == 1)) := hd
      have HX : Hid (xs.drop k = V :: xs.drop (k + 1)) := drop_cons hx
      clear hd hx hiv hF
      go_wp2_with fail
      refine (isUnset_any HD.out).mono ?_
      rintro e w2 ⟨rfl, hB2⟩
      have HB2 : Hid (Below w.heap.size w w2) := HBk.out.trans (hB2.mono HBk.out.size)
      clear hB2
      cases d with
      | true =>
        have HE : Hid (R = k) := by
          show _ = _
          rw [← HI.out, HX.out]
          unfold idxV
          rw [if_pos (by have := HD.out; simpa using this.symm)]
        go_wp2_with fail
        go_ret
        exact ⟨by rw [HE.out]; rfl, HB2⟩
      | false =>
        have HE : Hid (idxV (xs.drop (k + 1)) (k + 1) = R) := by
          show _ = _
          rw [← HI.out, HX.out]
          conv => rhs; unfold idxV
          rw [if_neg (by have := HD.out; simpa using this.symm)]
        go_wp2_with fail
        go_roundw
        case rel => exact ⟨k + 1, by omega, by go_num, HE, HB2⟩
        case measure => simp [intOf]; omega
    · have HE : Hid (R = -1) := by
        show _ = _
        rw [← HI.out, List.drop_eq_nil_of_le (by rw [HLN.out]; omega)]
        rfl
      go_wp2_with fail
      go_ret
      exact ⟨by rw [HE.out]; rfl, HBk⟩

set_option maxHeartbeats 400000 in
theorem contains_any {F : Nat → Prop} {w : World} {a : Option Addr} {len cap : Nat} {xs : List Vl} (h : Sees 2 F (VVal F w) w a len cap xs) {d : Bool} (hd : d = unB xs) :
    Calls Tryd.prog 59 #[.slice a len cap, .func (.func 49) #[] #[]] w fun e w' => e = .returned (.bool d) ∧ Hid (Below w.heap.size w w') := by
  have H : Hid (Sees 2 F (VVal F w) w a len cap xs) := h
  obtain ⟨R, hR⟩ : ∃ R, R = idxV xs 0 := ⟨_, rfl⟩
  have HR : Hid (R = idxV xs 0) := hR
  have hb := idxV_hi xs 0
  rw [← hR] at hb
  have HD : Hid (d = decide (0 ≤ R)) := by show _ = _; rw [hd, hR]; exact idxV_un xs 0
  clear h hd hR
  go_enter Tryd.func59, Tryd.ntmps59
  go_wp2_with fail
  refine (idxv_any H.out HR.out).mono ?_
  rintro e w2 ⟨rfl, HB⟩
  go_wp2_with fail
  go_ret
  exact ⟨by rw [HD.out]; rfl, HB⟩

def flagsN (gl : Bool) (cl : Nat) (m : Bool) (n : Int) : Int := (if gl = true ∧ 0 < cl then 1 else 0) + (if m = true then 2 else 0) + (if cl = 0 ∧ n ≠ 0 then 4 else 0)

set_option maxHeartbeats 1000000 in
theorem flagsOf_any {w : World} {n : Int} {ca : Option Addr} {cl cc : Nat} {m : Bool} {k : Int} {x : Option Addr} {lx cx : Nat} {ra : Option Addr} {rl rc : Nat} (gl : Bool) {f : Int} (hf : f = flagsN gl cl m n) :
    Calls Tryd.prog 33 #[.agg #[.int .i64 n, .slice ca cl cc, .bool m, .int .i64 k, .slice x lx cx, .slice ra rl rc], .bool gl] w fun e w' => e = .returned (.int .i64 f) ∧ Hid (Below w.heap.size w w') := by
  have HF : Hid (f = flagsN gl cl m n) := hf
  clear hf
  by_cases hc : cl = 0
  · subst hc
    by_cases hn : n = 0
    · subst hn
      cases gl <;> cases m <;>
      · go_enter Tryd.func33, Tryd.ntmps33
        go_wp2_with fail
        go_ret
        exact ⟨by rw [HF.out]; rfl, below_one _ _⟩
    · have t : (n != 0) = true := by simpa using hn
      have HN : Hid (n ≠ 0) := hn
      clear hn
      cases gl <;> cases m <;>
      · go_enter Tryd.func33, Tryd.ntmps33
        go_wp2_with fail
        go_ret
        exact ⟨by rw [HF.out]; simp [flagsN, HN.out]; rfl, below_one _ _⟩
  · have t : ((cl : Int) == 0) = false := by simp; omega
    have t2 : (0 : Int) < cl := by omega
    have HC : Hid (0 < cl) := by show 0 < cl; omega
    clear hc
    cases gl <;> cases m <;>
    · go_enter Tryd.func33, Tryd.ntmps33
      go_wp2_with fail
      go_ret
      refine ⟨?_, below_one _ _⟩
      have h0 := HC.out
      rw [HF.out]
      simp [flagsN, h0, show ¬ cl = 0 by omega]
      first | done | rfl

def rowOk (n : Int) (r : List Vl) : Bool := decide ((r.length : Int) = n) && !unB r
def mayT (T : Tb) : Bool := (decide (0 ≤ T.1) && decide (T.1 ≤ 4096) && decide (T.2.2.2.2.length ≤ 4096)) && ((decide (T.2.1.length = 0) || decide ((T.2.1.length : Int) = T.1)) && T.2.2.2.2.all (rowOk T.1))

set_option maxHeartbeats 2000000 in
theorem mayTe_any {n : Nat} {F : Nat → Prop} {w : World} {T : Tb} {ca : Option Addr} {cl cc : Nat} {x : Option Addr} {lx cx : Nat} {ra : Option Addr} {rl rc : Nat} (h : TbV n F w T ca cl cc x lx cx ra rl rc) (hi : -9223372036854775808 ≤ T.1 ∧ T.1 ≤ 9223372036854775807) {d : Bool} (hd : d = mayT T) :
    Calls Tryd.prog 30 #[.agg #[.int .i64 T.1, .slice ca cl cc, .bool T.2.2.1, .int .i64 T.2.2.2.1.1, .slice x lx cx, .slice ra rl rc]] w fun e w' => e = .returned (.bool d) ∧ Hid (Below w.heap.size w w') := by
  have H : Hid (TbV n F w T ca cl cc x lx cx ra rl rc) := h
  have HD : Hid (d = mayT T) := hd
  have HRL : Hid (T.2.2.2.2.length = rl) := h.2.2.1
  have HCL : Hid (T.2.1.length = cl) := h.1.1
  have hmx := h.2.2.max
  have hmc := h.1.max
  unfold maxLen at hmx hmc
  obtain ⟨cnt, hcnt⟩ : ∃ cnt, cnt = T.1 := ⟨_, rfl⟩
  have HCN : Hid (cnt = T.1) := hcnt
  rw [← hcnt] at hi ⊢
  clear h hd hcnt
  by_cases h1 : cnt < 0
  · have HE : Hid (d = false) := by show _ = _; rw [HD.out, mayT, ← HCN.out, decide_eq_false (show ¬ 0 ≤ cnt by omega)]; simp
    go_enter Tryd.func30, Tryd.ntmps30
    go_wp2_with fail
    go_ret
    exact ⟨by rw [HE.out]; rfl, below_one _ _⟩
  by_cases h2 : 4096 < cnt
  · have HE : Hid (d = false) := by show _ = _; rw [HD.out, mayT, ← HCN.out, decide_eq_false (show ¬ cnt ≤ 4096 by omega)]; simp
    go_enter Tryd.func30, Tryd.ntmps30
    go_wp2_with fail
    go_ret
    exact ⟨by rw [HE.out]; rfl, below_one _ _⟩
  by_cases h3 : (4096 : Int) < rl
  · have HE : Hid (d = false) := by show _ = _; rw [HD.out, mayT, decide_eq_false (show ¬ T.2.2.2.2.length ≤ 4096 by rw [HRL.out]; omega)]; simp
    go_enter Tryd.func30, Tryd.ntmps30
    go_wp2_with fail
    go_ret
    exact ⟨by rw [HE.out]; rfl, below_one _ _⟩
  obtain ⟨c1, hc1⟩ : ∃ c1 : Bool, c1 = (decide (cl = 0) || decide ((cl : Int) = cnt)) := ⟨_, rfl⟩
  have HDD : Hid (d = (c1 && (T.2.2.2.2.drop 0).all (rowOk cnt))) := by
    show _ = _
    rw [HD.out, mayT, ← HCN.out, HCL.out, hc1, List.drop_zero, decide_eq_true (show 0 ≤ cnt by omega), decide_eq_true (show cnt ≤ 4096 by omega), decide_eq_true (show T.2.2.2.2.length ≤ 4096 by rw [HRL.out]; omega)]
    rfl
  cases c1 with
  | false =>
    have hne : ¬ cl = 0 ∧ ¬ (cl : Int) = cnt := by simpa using hc1.symm
    have t1 : ((cl : Int) != 0) = true := by simp; omega
    have t2 : ((cl : Int) != cnt) = true := by simp; omega
    have HE : Hid (d = false) := by show _ = _; rw [HDD.out]; rfl
    clear hc1 hne HDD
    go_enter Tryd.func30, Tryd.ntmps30
    go_wp2_with fail
    go_ret
    exact ⟨by rw [HE.out]; rfl, below_one _ _⟩
  | true =>
    have hor : cl = 0 ∨ (cl : Int) = cnt := by simpa using hc1.symm
    have HGO : Hid ((T.2.2.2.2.drop 0).all (rowOk cnt) = d) := by show _ = _; rw [HDD.out]; rfl
    clear hc1 HDD
    obtain ⟨w0, hw0⟩ : ∃ w0, w0 = w.alloc (.cells #[.int .i64 cnt, .slice ca cl cc, .bool T.2.2.1, .int .i64 T.2.2.2.1.1, .slice x lx cx, .slice ra rl rc] 29) := ⟨_, rfl⟩
    have HW0 : Hid (w.alloc (.cells #[.int .i64 cnt, .slice ca cl cc, .bool T.2.2.1, .int .i64 T.2.2.2.1.1, .slice x lx cx, .slice ra rl rc] 29) = w0) := hw0.symm
    have hB0 : Below w.heap.size w w0 := by rw [hw0]; exact below_one _ _
    have HB0 : Hid (Below w.heap.size w w0) := hB0
    obtain ⟨q, hq⟩ : ∃ q, q = w.heap.size := ⟨_, rfl⟩
    have HQE : Hid (w.heap.size = q) := hq.symm
    have HT0 : Hid (w0.heap[q]? = some (.cells #[.int .i64 cnt, .slice ca cl cc, .bool T.2.2.1, .int .i64 T.2.2.2.1.1, .slice x lx cx, .slice ra rl rc] 29 (0, 0))) := by rw [hw0, hq]; exact heap_alloc_new w _
    have HRW : Hid (Sees 1 F (VRowS F w0) w0 ra rl rc T.2.2.2.2) := (H.out.old hB0).2.2
    obtain ⟨⟨a0, a1, a2, a3, a4, a5⟩, _⟩ := blk6 HT0.out
    have hlt0 := block_lt HT0.out
    clear hw0 hB0 hq
    have key : ∀ (hh : (cl = 0 ∧ ((cl : Int) != 0) = false) ∨ (((cl : Int) != 0) = true ∧ ((cl : Int) != cnt) = false)), Calls Tryd.prog 30 #[.agg #[.int .i64 cnt, .slice ca cl cc, .bool T.2.2.1, .int .i64 T.2.2.2.1.1, .slice x lx cx, .slice ra rl rc]] w fun e w' => e = .returned (.bool d) ∧ Hid (Below w.heap.size w w') := by
      intro hh
      rcases hh with ⟨rfl, t0⟩ | ⟨t0, t1⟩
      all_goals
        go_enter Tryd.func30, Tryd.ntmps30
        go_upto_region 1 with fail
        (try rw [HQE.out])
        rw [HW0.out]
        clear HW0
        go_wp2_with fail
        go_loopw [34] (fun i wr => ∃ k : Nat, k ≤ rl ∧ i = .int .i64 k ∧ Hid ((T.2.2.2.2.drop k).all (rowOk cnt) = d) ∧ Hid (Below w0.heap.size w0 wr)) (fun i _ => rl - (intOf i).toNat)
        case atStart => exact ⟨0, by omega, rfl, HGO, Below.refl _ _⟩
        case round =>
          obtain ⟨k, hk, rfl, HI, HBk⟩ := hrel
          have htk := (HBk.out.block q hlt0).trans HT0.out
          obtain ⟨⟨a0, a1, a2, a3, a4, a5⟩, _⟩ := blk6 htk
          have hltk := block_lt htk
          clear htk
          by_cases hlt2 : k < rl
          · obtain ⟨r, b8, off, y, ly, cy, hx, rfl, hbs, hF, c0, hrow⟩ := (HRW.out.kept stays_rowS (F' := F) (fun k hk _ => HBk.out.block k hk) HBk.out.size (fun _ _ hf => hf)).row hlt2
            have HX : Hid (T.2.2.2.2.drop k = r :: T.2.2.2.2.drop (k + 1)) := drop_cons hx
            have HROW : Hid (Sees 2 F (VVal F wr) wr y ly cy r) := hrow
            have HLY : Hid (r.length = ly) := hrow.1
            have hmy := hrow.max
            unfold maxLen at hmy
            clear hx hrow hF
            by_cases hlen : (ly : Int) = cnt
            · have tl : ((ly : Int) != cnt) = false := by simpa using hlen
              obtain ⟨u, hu⟩ : ∃ u, u = unB r := ⟨_, rfl⟩
              have HU : Hid (u = unB r) := hu
              have HRO : Hid (rowOk cnt r = !u) := by show _ = _; rw [rowOk, HLY.out, decide_eq_true hlen, ← hu]; rfl
              clear hu
              go_wp2_with fail
              refine (contains_any HROW.out HU.out).mono ?_
              rintro e w2 ⟨rfl, HB2⟩
              have HB3 : Hid (Below w0.heap.size w0 w2) := HBk.out.trans (HB2.out.mono HBk.out.size)
              cases u with
              | true =>
                have HE : Hid (d = false) := by show _ = _; rw [← HI.out, HX.out, List.all_cons, HRO.out]; rfl
                go_wp2_with fail
                go_ret
                exact ⟨by rw [HE.out]; rfl, HB0.out.trans (HB3.out.mono HB0.out.size)⟩
              | false =>
                have HE : Hid ((T.2.2.2.2.drop (k + 1)).all (rowOk cnt) = d) := by show _ = _; rw [← HI.out, HX.out, List.all_cons, HRO.out]; rfl
                go_wp2_with fail
                go_roundw
                case rel => exact ⟨k + 1, by omega, by go_num, HE, HB3⟩
                case measure => simp [intOf]; omega
            · have tl : ((ly : Int) != cnt) = true := by simpa using hlen
              have HE : Hid (d = false) := by show _ = _; rw [← HI.out, HX.out, List.all_cons, rowOk, HLY.out, decide_eq_false hlen]; rfl
              go_wp2_with fail
              go_ret
              exact ⟨by rw [HE.out]; rfl, HB0.out.trans (HBk.out.mono HB0.out.size)⟩
          · have HE : Hid (d = true) := by
              show _ = _
              rw [← HI.out, List.drop_eq_nil_of_le (by rw [HRL.out]; omega)]
              rfl
            go_wp2_with fail
            go_ret
            exact ⟨by rw [HE.out]; rfl, HB0.out.trans (HBk.out.mono HB0.out.size)⟩
    by_cases hc0 : cl = 0
    · exact key (.inl ⟨hc0, by rw [hc0]; rfl⟩)
    · exact key (.inr ⟨by simp; omega, by simp; omega⟩)

end Go.Proofs.YtnapeecmlkkolaaDoor

namespace Go.Proofs.YtnapeecmlkkolaaDoor
open Go.RowKit
set_option maxRecDepth 100000
set_option linter.unusedVariables false
set_option linter.unusedSimpArgs false

def oneOf (s0 t0 : ByteArray) (c : Col) : Bool := nmB c.1 s0 && nmB c.2.1 t0
def oneB : List Col → Bool
  | [] => true
  | c :: r => (c :: r).all (oneOf c.1 c.2.1)

set_option maxHeartbeats 2000000 in
theorem oneTable_any {m : Nat} {F : Nat → Prop} {w : World} {a : Option Addr} {len cap : Nat} {xs : List Col} (h : Sees 8 F (VCol (m + 1) F w) w a len cap xs) {d : Bool} (hd : d = oneB xs) :
    Calls Tryd.prog 31 #[.slice a len cap] w fun e w' => e = .returned (.bool d) ∧ Hid (Below w.heap.size w w') := by
  have H : Hid (Sees 8 F (VCol (m + 1) F w) w a len cap xs) := h
  have hml := h.max
  unfold maxLen at hml
  have HLN : Hid (xs.length = len) := h.1
  obtain ⟨s0, t0, hst⟩ : ∃ s0 t0, d = (xs.drop 0).all (oneOf s0 t0) ∧ (∀ c, xs[0]? = some c → c.1 = s0 ∧ c.2.1 = t0) := by
    rw [hd]
    cases xs with
    | nil => exact ⟨⟨#[]⟩, ⟨#[]⟩, rfl, fun c hc => by simp at hc⟩
    | cons c r => exact ⟨c.1, c.2.1, rfl, fun c' hc => by simp at hc; subst hc; exact ⟨rfl, rfl⟩⟩
  have HR0 : Hid ((xs.drop 0).all (oneOf s0 t0) = d) := hst.1.symm
  have H0 : Hid (∀ c, xs[0]? = some c → c.1 = s0 ∧ c.2.1 = t0) := hst.2
  clear h hd hst
  go_enter Tryd.func31, Tryd.ntmps31
  go_wp2_with fail
  go_loopw [7] (fun i wr => ∃ k : Nat, k ≤ len ∧ i = .int .i64 k ∧ Hid ((xs.drop k).all (oneOf s0 t0) = d) ∧ Hid (Below w.heap.size w wr)) (fun i _ => len - (intOf i).toNat)
  case atStart => exact ⟨0, by omega, rfl, HR0, Below.refl _ _⟩
  case round =>
    obtain ⟨k, hk, rfl, HI, HBk⟩ := hrel
    by_cases hlt2 : k < len
    · have HXk : Hid (Sees 8 F (VCol (m + 1) F wr) wr a len cap xs) := H.out.kept (stays_col (m + 1)) (F' := F) (fun k hk _ => HBk.out.block k hk) HBk.out.size (fun _ _ hf => hf)
      obtain ⟨sz, tz, nz, XZ, bz, oz, naz, nlz, ncz, kaz, klz, kcz, hxz, haz, hbsz, _, ⟨z0, z1, _⟩, _, _⟩ := HXk.out.col (k := 0) (by omega)
      obtain ⟨s, t, nm, X, b8, off, na, nl, nc, ka, kl, kc, hx, ha, hbs, hF, ⟨c0, c1, c2, c3, c4, c5, c6, c7⟩, hsz, hty⟩ := HXk.out.col hlt2
      subst ha
      cases haz
      have hz := H0.out _ hxz
      simp only at hz
      obtain ⟨rfl, rfl⟩ := hz
      simp only [Nat.zero_mul, Nat.add_zero] at z0 z1
      have HX : Hid (xs.drop k = (s, t, nm, X) :: xs.drop (k + 1)) := drop_cons hx
      have hp0 : 0 < len := by omega
      obtain ⟨g, hg⟩ : ∃ g, g = wr.heap.size := ⟨_, rfl⟩
      have HGE : Hid (wr.heap.size = g) := hg.symm
      obtain ⟨w0, hw0⟩ : ∃ w0, w0 = wr.alloc (.cells #[.string s, .string t, .string nm, .int .u16 X.id, .string X.space, .string X.name, .slice na nl nc, .slice ka kl kc] 64) := ⟨_, rfl⟩
      have HW0E : Hid (wr.alloc (.cells #[.string s, .string t, .string nm, .int .u16 X.id, .string X.space, .string X.name, .slice na nl nc, .slice ka kl kc] 64) = w0) := hw0.symm
      have hB0 : Below wr.heap.size wr w0 := by rw [hw0]; exact below_one _ _
      have hg0 : w0.heap[g]? = some (.cells #[.string s, .string t, .string nm, .int .u16 X.id, .string X.space, .string X.name, .slice na nl nc, .slice ka kl kc] 64 (0, 0)) := by rw [hw0, hg]; exact heap_alloc_new wr _
      obtain ⟨⟨k0, k1, k2, k3, k4, k5, k6, k7⟩, _⟩ := blk8 hg0
      have y0 : w0.cell? ⟨bz, oz, none⟩ = some (.string sz) := by rw [hB0.cell (p := ⟨bz, oz, none⟩) hbs]; exact z0
      have y1 : w0.cell? ⟨bz, oz + 1, none⟩ = some (.string tz) := by rw [hB0.cell (p := ⟨bz, oz + 1, none⟩) hbs]; exact z1
      have HB1 : Hid (Below w.heap.size w w0) := HBk.out.trans (hB0.mono HBk.out.size)
      have hlg := block_lt hg0
      have hbz0 : bz < w0.heap.size := Nat.lt_of_lt_of_le hbs hB0.size
      clear hx hsz hty hF hg hw0 hB0 hg0 hxz z0 z1
      by_cases hs : nmB s sz = true
      · have qs : (s.toList == sz.toList) = true := hs
        have qs2 : (s.toList != sz.toList) = false := by simp only [bne, qs]; rfl
        by_cases ht : nmB t tz = true
        · have qt : (t.toList == tz.toList) = true := ht
          have qt2 : (t.toList != tz.toList) = false := by simp only [bne, qt]; rfl
          have HE : Hid ((xs.drop (k + 1)).all (oneOf sz tz) = d) := by show _ = _; rw [← HI.out, HX.out, List.all_cons, oneOf]; simp [hs, ht]
          clear hs ht
          go_upto_region 4 with fail
          rw [HW0E.out]
          (try rw [HGE.out])
          clear HW0E
          go_wp2_with fail
          go_quiet (fail)
          go_wp2_with fail
          go_roundw
          case rel => exact ⟨k + 1, by omega, by go_num, HE, below_drewN HB1.out _⟩
          case measure => simp [intOf]; omega
        · have qt : (t.toList == tz.toList) = false := by have : nmB t tz = false := by simpa using ht
                                                          exact this
          have qt2 : (t.toList != tz.toList) = true := by simp only [bne, qt]; rfl
          have HE : Hid (d = false) := by show _ = _; rw [← HI.out, HX.out, List.all_cons, oneOf]; simp [ht]
          clear hs ht
          go_upto_region 4 with fail
          rw [HW0E.out]
          (try rw [HGE.out])
          clear HW0E
          go_wp2_with fail
          go_quiet (fail)
          go_wp2_with fail
          go_ret
          exact ⟨by rw [HE.out]; rfl, below_drewN HB1.out _⟩
      · have qs : (s.toList == sz.toList) = false := by have : nmB s sz = false := by simpa using hs
                                                        exact this
        have qs2 : (s.toList != sz.toList) = true := by simp only [bne, qs]; rfl
        have HE : Hid (d = false) := by show _ = _; rw [← HI.out, HX.out, List.all_cons, oneOf]; simp [hs]
        clear hs
        go_upto_region 4 with fail
        rw [HW0E.out]
        (try rw [HGE.out])
        clear HW0E
        go_wp2_with fail
        go_quiet (fail)
        go_wp2_with fail
        go_ret
        exact ⟨by rw [HE.out]; rfl, below_drewN HB1.out _⟩
    · have HE : Hid (d = true) := by
        show _ = _
        rw [← HI.out, List.drop_eq_nil_of_le (by rw [HLN.out]; omega)]
        rfl
      go_wp2_with fail
      go_ret
      exact ⟨by rw [HE.out]; rfl, HBk⟩

/-- What a table costs at most. -/
def tabW (n : Nat) (T : Tb) : Nat := 16 + (valW T.2.2.2.1 + ((T.2.1.map (colW n)).sum + (T.2.2.2.2.map rowW).sum))

set_option maxHeartbeats 2000000 in
theorem wtable {n : Nat} {w : World} {p : Nat} {v : Value} {S : BE} (h : Wr w p v S) (hT : Tab w) (hp0 : 0 < p) {T : Tb} {ca : Option Addr} {cl cc : Nat} {x : Option Addr} {lx cx : Nat} {ra : Option Addr} {rl rc : Nat}
    (hV : TbV (n + 1) (fun z => z < p) w T ca cl cc x lx cx ra rl rc) (hc : 0 ≤ T.1 ∧ T.1 ≤ 4096) {f : Int} (hf : 0 ≤ f ∧ f ≤ 7) (hsm : T.2.2.2.1.2.size ≤ 140737488351232)
    (hbd : S.1.length + (12 + (valW T.2.2.2.1 + (T.2.1.map (colW n)).sum)) ≤ 140737488355328) {R : BE} (hR : R = seqB S (headB n f T)) :
    Calls Tryd.prog 32 #[.pointer (some ⟨p, 0, none⟩), .agg #[.int .i64 T.1, .slice ca cl cc, .bool T.2.2.1, .int .i64 T.2.2.2.1.1, .slice x lx cx, .slice ra rl rc], .int .i64 f] w fun r w' => r = .returned (.tuple #[]) ∧ ∃ v', Hid (Wr w' p v' R) ∧ Hid (Chg p v v' w w') := by
  obtain ⟨w0, hw0⟩ : ∃ w0, w0 = w.alloc (.cells #[.int .i64 T.1, .slice ca cl cc, .bool T.2.2.1, .int .i64 T.2.2.2.1.1, .slice x lx cx, .slice ra rl rc] 29) := ⟨_, rfl⟩
  have HW0E : Hid (w.alloc (.cells #[.int .i64 T.1, .slice ca cl cc, .bool T.2.2.1, .int .i64 T.2.2.2.1.1, .slice x lx cx, .slice ra rl rc] 29) = w0) := hw0.symm
  obtain ⟨g, hg⟩ : ∃ g, g = w.heap.size := ⟨_, rfl⟩
  have HGE : Hid (w.heap.size = g) := hg.symm
  have hB0 : Below w.heap.size w w0 := by rw [hw0]; exact below_one _ _
  have HG0 : Hid (w0.heap[g]? = some (.cells #[.int .i64 T.1, .slice ca cl cc, .bool T.2.2.1, .int .i64 T.2.2.2.1.1, .slice x lx cx, .slice ra rl rc] 29 (0, 0))) := by rw [hw0, hg]; exact heap_alloc_new w _
  have HW0 : Hid (Wr w0 p v S) := h.new hB0
  have HT0 : Hid (Tab w0) := hT.old hB0
  have HV0 : Hid (TbV (n + 1) (fun z => z < p) w0 T ca cl cc x lx cx ra rl rc) := hV.old hB0
  have HC0 : Hid (Chg p v v w w0) := chg_new hB0
  have HPG : Hid (p < g) := by have := h.lt; show p < g; omega
  have HFR0 : Hid (v.ownBlock ≠ some g) := fun e => by have := (h.far g e).2; omega
  have HRE : Hid (R = seqB S (headB n f T)) := hR
  have HBD : Hid (S.1.length + (12 + (valW T.2.2.2.1 + (T.2.1.map (colW n)).sum)) ≤ 140737488355328) := hbd
  have HSM : Hid (T.2.2.2.1.2.size ≤ 140737488351232) := hsm
  obtain ⟨⟨k0, k1, k2, k3, k4, k5⟩, _⟩ := blk6 HG0.out
  have hgl := block_lt HG0.out
  obtain ⟨b1, hb1⟩ : ∃ b1, b1 = bitX f 1 := ⟨_, rfl⟩
  have HB1 : Hid (b1 = bitX f 1) := hb1
  have tb1 : (bits .and .i64 f 1 != 0) = b1 := hb1.symm
  obtain ⟨cnt, hcnt⟩ : ∃ cnt, cnt = T.1 := ⟨_, rfl⟩
  have HCN : Hid (cnt = T.1) := hcnt
  rw [← hcnt] at hc k0
  clear hw0 hg hB0 h hT hV hR hbd hsm hb1 hcnt
  go_enter Tryd.func32, Tryd.ntmps32
  go_upto_region 1 with fail
  (try rw [HGE.out])
  rw [HW0E.out]
  clear HW0E
  go_wp2_with fail
  refine (wnumber HW0.out f hf.1 (by omega) (by have := HBD.out; omega)).mono ?_
  rintro r w1 ⟨rfl, v1, HW1, HC1⟩
  have HG1 : Hid (w1.heap[g]? = some (.cells #[.int .i64 T.1, .slice ca cl cc, .bool T.2.2.1, .int .i64 T.2.2.2.1.1, .slice x lx cx, .slice ra rl rc] 29 (0, 0))) := (HC1.out.1.block g hgl (fun e => by rcases e with e | e; have := HPG.out; omega; exact HFR0.out e)).trans HG0.out
  have HFR1 : Hid (v1.ownBlock ≠ some g) := fun e => by rcases HC1.out.2 g e with e | e; exact HFR0.out e; omega
  obtain ⟨⟨k0, k1, k2, k3, k4, k5⟩, _⟩ := blk6 HG1.out
  rw [← HCN.out] at k0
  have hgl1 := block_lt HG1.out
  have HL1 : Hid ((seqB S (intB f)).1.length ≤ S.1.length + 4) := by
    have h1 := seqB_len S (intB f)
    have h2 : (intB f).1.length = 4 := putL_length _ _
    show _ ≤ _
    omega
  go_wp2_with fail
  refine (wnumber HW1.out cnt hc.1 (by omega) (by have := HBD.out; have := HL1.out; omega)).mono ?_
  rintro r w2 ⟨rfl, v2, HW2, HC2⟩
  have HG2 : Hid (w2.heap[g]? = some (.cells #[.int .i64 T.1, .slice ca cl cc, .bool T.2.2.1, .int .i64 T.2.2.2.1.1, .slice x lx cx, .slice ra rl rc] 29 (0, 0))) := (HC2.out.1.block g hgl1 (fun e => by rcases e with e | e; have := HPG.out; omega; exact HFR1.out e)).trans HG1.out
  have HFR2 : Hid (v2.ownBlock ≠ some g) := fun e => by rcases HC2.out.2 g e with e | e; exact HFR1.out e; omega
  obtain ⟨⟨k0, k1, k2, k3, k4, k5⟩, _⟩ := blk6 HG2.out
  have hgl2 := block_lt HG2.out
  have HCA : Hid (Chg p v v2 w0 w2) := HC1.out.trans HC2.out
  have HV2 : Hid (TbV (n + 1) (fun z => z < p) w2 T ca cl cc x lx cx ra rl rc) := HV0.out.apart HCA.out.1 (fun z _ hz e => by rcases e with e | e; omega; have := (HW0.out.far z e).1; omega)
  have HT2 : Hid (Tab w2) := HT0.out.kept HCA.out.1 (fun e => by rcases e with e | e; omega; have := (HW0.out.far 0 e).1; omega)
  have HCB : Hid (Chg p v v2 w w2) := HC0.out.trans HCA.out
  obtain ⟨S2, hS2⟩ : ∃ S2, S2 = seqB (seqB S (intB f)) (intB cnt) := ⟨_, rfl⟩
  have HS2 : Hid (S2 = seqB (seqB S (intB f)) (intB cnt)) := hS2
  have HL2 : Hid (S2.1.length ≤ S.1.length + 8) := by
    have h1 := seqB_len (seqB S (intB f)) (intB cnt)
    have h2 : (intB cnt).1.length = 4 := putL_length _ _
    have h3 := HL1.out
    show _ ≤ _
    rw [hS2]
    omega
  rw [← hS2] at HW2
  clear hS2 HG0 HG1 HW0 HW1 HT0 HV0 HC0 HC1 HC2 HCA
  obtain ⟨mo, hmo⟩ : ∃ mo, mo = T.2.2.1 := ⟨_, rfl⟩
  have HMO : Hid (mo = T.2.2.1) := hmo
  rw [← hmo] at k2
  cases mo with
  | true =>
    clear hmo
    go_wp2_with fail
    refine (value_any T.2.2.2.1 _ HV2.out.2.1.1 HSM.out rfl).mono ?_
    rintro e wa ⟨a3, cp3, rfl, HP3, hBa⟩
    have HBa : Hid (Below w2.heap.size w2 wa) := hBa
    have hga := (hBa.block g hgl2).trans HG2.out
    obtain ⟨⟨k0, k1, k2, k3, k4, k5⟩, _⟩ := blk6 hga
    have hgla := block_lt hga
    clear hBa hga
    go_wp2_with fail
    refine (wpart_new HW2.out HBa.out HP3.out (by have := valueB_len T.2.2.2.1; have := HBD.out; have := HL2.out; unfold valW at *; omega) _).mono ?_
    rintro r w3 ⟨rfl, v3, HW3, HC3⟩
    rw [BE_eta] at HW3
    have HG3 := (HC3.out.1.block g hgl2 (fun e => by rcases e with e | e; have := HPG.out; omega; exact HFR2.out e)).trans HG2.out
    obtain ⟨⟨k0, k1, k2, k3, k4, k5⟩, _⟩ := blk6 HG3
    have hgl3 := block_lt HG3
    have HV3 : Hid (TbV (n + 1) (fun z => z < p) w3 T ca cl cc x lx cx ra rl rc) := HV2.out.apart HC3.out.1 (fun z _ hz e => by rcases e with e | e; omega; have := (HW2.out.far z e).1; omega)
    have HT3 : Hid (Tab w3) := HT2.out.kept HC3.out.1 (fun e => by rcases e with e | e; omega; have := (HW2.out.far 0 e).1; omega)
    have HCC : Hid (Chg p v v3 w w3) := HCB.out.trans HC3.out
    have HBN : Hid ((seqB S2 (valueB T.2.2.2.1)).1.length + (T.2.1.map (colW n)).sum ≤ 140737488355328) := by
      have h1 := seqB_len S2 (valueB T.2.2.2.1)
      have h2 := valueB_len T.2.2.2.1
      have h3 := HBD.out
      have h4 := HL2.out
      unfold valW at h3
      show _ ≤ _
      omega
    have HRN : Hid (R = seqB (seqB S2 (valueB T.2.2.2.1)) (colsFrom n b1 0 T.2.1)) := by
      show _ = _
      rw [HRE.out, HS2.out, HB1.out, headB, HCN.out, ← HMO.out]
      simp only [seqB_assoc, optB, if_true]
    clear HG3
    go_wp2_with fail
    refine (wcolumns HW3.out HT3.out hp0 HV3.out.1 b1 HBN.out HRN.out).mono ?_
    rintro r w4 ⟨rfl, v4, HW4, HC4⟩
    go_wp2_with fail
    go_end0
    exact ⟨rfl, v4, HW4, HCC.out.trans HC4.out⟩
  | false =>
    clear hmo
    have HBN : Hid (S2.1.length + (T.2.1.map (colW n)).sum ≤ 140737488355328) := by
      have h3 := HBD.out
      have h4 := HL2.out
      show _ ≤ _
      omega
    have HRN : Hid (R = seqB S2 (colsFrom n b1 0 T.2.1)) := by
      show _ = _
      have hN : Nrm S2 := HW2.out.nrm
      rw [HRE.out, HS2.out, HB1.out, headB, HCN.out, ← HMO.out]
      simp only [seqB_assoc, optB, unitB]
      rw [if_neg (by decide)]
      congr 3
      cases T.2.1 with
      | nil => rfl
      | cons c r => exact unit_seqB (nrm_seq _ _)
    go_wp2_with fail
    refine (wcolumns HW2.out HT2.out hp0 HV2.out.1 b1 HBN.out HRN.out).mono ?_
    rintro r w4 ⟨rfl, v4, HW4, HC4⟩
    go_wp2_with fail
    go_end0
    exact ⟨rfl, v4, HW4, HCB.out.trans HC4.out⟩

end Go.Proofs.YtnapeecmlkkolaaDoor
