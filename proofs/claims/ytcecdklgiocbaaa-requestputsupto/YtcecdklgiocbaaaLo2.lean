/-
  ValueGet, TextPut, ValuePut, Pair, Items, GetS, GetP, PutS, laid together.
-/
import Derived.Test.YtcecdklgiocbaaaLo1
import Derived.Lib.AppendStr
import Derived.Deep.DeepCutAuto
import Derived.Deep.RegionHeld3
import Derived.Laws.AppendOwnNone
import Derived.Deep.AppendLies
namespace Go.Proofs.Ytcecdklgiocbaaa
open Go.RowKit
set_option linter.unusedVariables false
set_option linter.unusedSimpArgs false

theorem bcell {W w1 : World} (hb : Below W.heap.size W w1) : (∀ b o, b < W.heap.size → w1.cell? ⟨b, o, none⟩ = W.cell? ⟨b, o, none⟩) ∧ (∀ b o, b < W.heap.size → w1.frozen? ⟨b, o, none⟩ = W.frozen? ⟨b, o, none⟩) :=
  ⟨fun b o h => hb.cell (p := ⟨b, o, none⟩) h, fun b o h => hb.frozen (p := ⟨b, o, none⟩) h⟩

theorem below_one (w : World) (o : Obj) : Below w.heap.size w (w.alloc o) := (Below.refl _ _).alloc (Nat.le_refl _) _

theorem BRow.set {w : World} {b off len cap : Nat} {zs : List Int} (h : BRow w b off len cap zs) {g k : Nat} (hg : g ≠ b) (v : Value) : BRow (w.setCell ⟨g, k, none⟩ v) b off len cap zs :=
  ⟨h.len_eq, h.le, h.cap_le, fun hl => by simpa using h.lt hl, fun i hi => (World.cell?_setCell_other (w := w) (a := ⟨g, k, none⟩) (b := ⟨b, off + i, none⟩) (v := v) (by intro e; cases e; exact hg rfl)).trans (h.cell i hi), h.rng⟩

theorem below_two {w w1 : World} {o : Obj} (hB : Below (w.alloc o).heap.size (w.alloc o) w1) (u v : Value) : Below w.heap.size w ((w1.setCell ⟨w.heap.size, 0, none⟩ u).setCell ⟨w.heap.size, 1, none⟩ v) :=
  (((below_one w o).trans (hB.mono (by simp))).setCell (Nat.le_refl _) _).setCell (Nat.le_refl _) _

theorem below_on (w1 : World) (s : Nat) (u v : Value) : Below s w1 ((w1.setCell ⟨s, 0, none⟩ u).setCell ⟨s, 1, none⟩ v) :=
  ((Below.refl s w1).setCell (p := ⟨s, 0, none⟩) (Nat.le_refl _) u).setCell (p := ⟨s, 1, none⟩) (Nat.le_refl _) v

set_option maxHeartbeats 400000 in
theorem getValue_short0 (a : Option Addr) (len cap : Nat) (w : World) (hl : len < 4) :
    Calls Try.prog 45 #[.slice a len cap] w fun e w' => e = .returned (.tuple #[.agg #[.int .i64 0, .slice none 0 0], .slice none 0 0, .int .i64 10]) ∧ Below w.heap.size w w' := by
  go_enter Try.func45, Try.ntmps45
  go_wp2_with fail
  refine (getInt_short a len cap _ hl).mono ?_
  rintro e w1 ⟨rfl, rfl⟩
  go_wp2_with fail
  exact bodyPost_ret (v := .tuple #[.agg #[.int .i64 0, .slice none 0 0], .slice none 0 0, .int .i64 10]) (by simp [results, Try.results45, go_sem]) rfl ⟨rfl, below_one _ _⟩

set_option maxHeartbeats 400000 in
theorem getValue_form {w : World} {b off len cap : Nat} {zs : List Int} (h : BRow w b off len cap zs) (hl : 4 ≤ len) (hn : int4 zs < -2) :
    Calls Try.prog 45 #[.slice (some ⟨b, off, none⟩) len cap] w fun e w' => e = .returned (.tuple #[.agg #[.int .i64 0, .slice none 0 0], .slice none 0 0, .int .i64 11]) ∧ Below w.heap.size w w' := by
  have H : Hid _ := h
  clear h
  go_enter Try.func45, Try.ntmps45
  go_wp2_with fail
  refine (getInt_yes (H.out.old (below_one _ _)) hl).mono ?_
  rintro e w1 ⟨off', rfl, hR, hB⟩
  obtain ⟨hc, hf⟩ := bcell hB
  have hs : w.heap.size < w1.heap.size := by have := hB.size; simp at this; omega
  go_wp2_with fail
  exact bodyPost_ret (v := .tuple #[.agg #[.int .i64 0, .slice none 0 0], .slice none 0 0, .int .i64 11]) (by simp [results, Try.results45, go_sem, hc, hs]) rfl ⟨rfl, below_two hB _ _⟩

set_option maxHeartbeats 400000 in
theorem getValue_unset {w : World} {b off len cap : Nat} {zs : List Int} (h : BRow w b off len cap zs) (hl : 4 ≤ len) (hn : int4 zs = -2) :
    Calls Try.prog 45 #[.slice (some ⟨b, off, none⟩) len cap] w fun e w' => ∃ off', e = .returned (.tuple #[.agg #[.int .i64 1, .slice none 0 0], .slice (some ⟨b, off', none⟩) (len - 4) (cap - 4), .int .i64 0]) ∧
      BRow w' b off' (len - 4) (cap - 4) (zs.drop 4) ∧ Below w.heap.size w w' := by
  have H : Hid _ := h
  clear h
  go_enter Try.func45, Try.ntmps45
  go_wp2_with fail
  refine (getInt_yes (H.out.old (below_one _ _)) hl).mono ?_
  rintro e w1 ⟨off', rfl, hR, hB⟩
  obtain ⟨hc, hf⟩ := bcell hB
  have hs : w.heap.size < w1.heap.size := by have := hB.size; simp at this; omega
  rw [hn]
  clear hn
  go_wp2_with fail
  exact bodyPost_ret (v := .tuple #[.agg #[.int .i64 1, .slice none 0 0], .slice (some ⟨b, off', none⟩) (len - 4) (cap - 4), .int .i64 0]) (by simp [results, Try.results45, go_sem, hc, hs]) rfl
    ⟨off', rfl, hR.below (below_on _ _ _ _) (fun _ => H.out.lt (by omega)), below_two hB _ _⟩

set_option maxHeartbeats 400000 in
theorem getValue_null {w : World} {b off len cap : Nat} {zs : List Int} (h : BRow w b off len cap zs) (hl : 4 ≤ len) (hn : int4 zs = -1) :
    Calls Try.prog 45 #[.slice (some ⟨b, off, none⟩) len cap] w fun e w' => ∃ off', e = .returned (.tuple #[.agg #[.int .i64 0, .slice none 0 0], .slice (some ⟨b, off', none⟩) (len - 4) (cap - 4), .int .i64 0]) ∧
      BRow w' b off' (len - 4) (cap - 4) (zs.drop 4) ∧ Below w.heap.size w w' := by
  have H : Hid _ := h
  clear h
  go_enter Try.func45, Try.ntmps45
  go_wp2_with fail
  refine (getInt_yes (H.out.old (below_one _ _)) hl).mono ?_
  rintro e w1 ⟨off', rfl, hR, hB⟩
  obtain ⟨hc, hf⟩ := bcell hB
  have hs : w.heap.size < w1.heap.size := by have := hB.size; simp at this; omega
  rw [hn]
  clear hn
  go_wp2_with fail
  exact bodyPost_ret (v := .tuple #[.agg #[.int .i64 0, .slice none 0 0], .slice (some ⟨b, off', none⟩) (len - 4) (cap - 4), .int .i64 0]) (by simp [results, Try.results45, go_sem, hc, hs]) rfl
    ⟨off', rfl, hR.below (below_on _ _ _ _) (fun _ => H.out.lt (by omega)), below_two hB _ _⟩

theorem int4_tests {zs : List Int} (h : 0 ≤ int4 zs) : decide (int4 zs < -2) = false ∧ (int4 zs == -2) = false ∧ (int4 zs == -1) = false := by
  refine ⟨by simp; omega, by simp; omega, by simp; omega⟩

set_option maxHeartbeats 400000 in
theorem getValue_short {w : World} {b off len cap : Nat} {zs : List Int} (h : BRow w b off len cap zs) (hl : 4 ≤ len) (hn : ((len - 4 : Nat) : Int) < int4 zs) :
    Calls Try.prog 45 #[.slice (some ⟨b, off, none⟩) len cap] w fun e w' => e = .returned (.tuple #[.agg #[.int .i64 0, .slice none 0 0], .slice none 0 0, .int .i64 10]) ∧ Below w.heap.size w w' := by
  have H : Hid _ := h
  have hlm : len ≤ maxLen := Nat.le_trans h.le h.cap_le
  have HN : Hid _ := hn
  have HLM : Hid (len - 4 ≤ maxLen) := (by omega : len - 4 ≤ maxLen)
  have h0 : 0 ≤ int4 zs := by omega
  have hbd := (int4_bounds zs).2
  obtain ⟨ht1, ht2, ht3⟩ := int4_tests h0
  clear h hn hlm
  go_enter Try.func45, Try.ntmps45
  go_wp2_with fail
  refine (getInt_yes (H.out.old (below_one _ _)) hl).mono ?_
  rintro e w1 ⟨off', rfl, hR, hB⟩
  obtain ⟨hc, hf⟩ := bcell hB
  have hs : w.heap.size < w1.heap.size := by have := hB.size; simp at this; omega
  have HR : Hid _ := hR
  clear hR
  go_wp2_with fail
  refine (btake_short _ _ _ _ _ HLM.out HN.out).mono ?_
  rintro e w2 ⟨rfl, rfl⟩
  go_wp2_with fail
  exact bodyPost_ret (v := .tuple #[.agg #[.int .i64 0, .slice none 0 0], .slice none 0 0, .int .i64 10]) (by simp [results, Try.results45, go_sem, hc, hs]) rfl ⟨rfl, below_two hB _ _⟩

set_option maxHeartbeats 400000 in
theorem getValue_set {w : World} {b off len cap : Nat} {zs : List Int} (h : BRow w b off len cap zs) (hsm : len ≤ 140737488351232) (n : Nat) (hl : 4 + n ≤ len) (hn : int4 zs = n) :
    Calls Try.prog 45 #[.slice (some ⟨b, off, none⟩) len cap] w fun e w' => ∃ off' g, w.heap.size ≤ g ∧ g < w'.heap.size ∧ e = .returned (.tuple #[.agg #[.int .i64 2, .slice (some ⟨g, 0, none⟩) n n], .slice (some ⟨b, off', none⟩) (len - 4 - n) (cap - 4 - n), .int .i64 0]) ∧
      BRow w' g 0 n n ((zs.drop 4).take n) ∧ BRow w' b off' (len - 4 - n) (cap - 4 - n) (zs.drop (4 + n)) ∧ Below w.heap.size w w' := by
  have H : Hid _ := h
  have HN : Hid _ := hn
  have h0 : 0 ≤ int4 zs := by omega
  have hbd := (int4_bounds zs).2
  obtain ⟨ht1, ht2, ht3⟩ := int4_tests h0
  clear h hn
  go_enter Try.func45, Try.ntmps45
  go_wp2_with fail
  refine (getInt_yes (H.out.old (below_one _ _)) (by omega)).mono ?_
  rintro e w1 ⟨off', rfl, hR, hB⟩
  have hs : w.heap.size < w1.heap.size := by have := hB.size; simp at this; omega
  have HR : Hid _ := hR
  clear hR
  go_wp2_with fail
  refine (btake HR.out n (by omega) (by omega) _ HN.out).mono ?_
  rintro e w2 ⟨off2, rfl, hX, hR2, hB2, hs3⟩
  have hB3 := hB.trans (hB2.mono hB.size)
  obtain ⟨hc, hf⟩ := bcell hB3
  have hs2 : w.heap.size < w2.heap.size := by have := hB3.size; simp at this; omega
  rw [List.drop_drop] at hR2
  have HR2 : Hid _ := hR2
  have HX : Hid _ := hX
  clear hX hR2
  go_wp2_with fail
  exact bodyPost_ret (v := .tuple #[.agg #[.int .i64 2, .slice (some ⟨w1.heap.size, 0, none⟩) n n], .slice (some ⟨b, off2, none⟩) (len - 4 - n) (cap - 4 - n), .int .i64 0]) (by simp [results, Try.results45, go_sem, hc, hs2]) rfl
    ⟨off2, w1.heap.size, by omega, by simpa using hs3, rfl, (HX.out.set (by omega) _).set (by omega) _, HR2.out.below (below_on _ _ _ _) (fun _ => H.out.lt (by omega)), below_two hB3 _ _⟩
end Go.Proofs.Ytcecdklgiocbaaa

namespace Go.Proofs.Ytcecdklgiocbaaa
open Go.RowKit
set_option linter.unusedVariables false
set_option linter.unusedSimpArgs false

/-- A text's bytes as numbers. -/
def sNums (s : ByteArray) : List Int := s.data.toList.map fun c => (c.toNat : Int)

theorem sNums_cells (s : ByteArray) : Lib.strCells s = (sNums s).map (Value.int .u8) := by
  simp [Lib.strCells, sNums, Function.comp_def]

theorem sNums_length (s : ByteArray) : (sNums s).length = s.size := by
  rw [sNums, List.length_map, Array.length_toList]
  rfl

theorem sNums_range (s : ByteArray) : ∀ j : Nat, 0 ≤ (sNums s)[j]?.getD 0 ∧ (sNums s)[j]?.getD 0 ≤ 255 := by
  intro j
  by_cases h : j < (sNums s).length
  · rw [List.getElem?_eq_getElem h, Option.getD_some]
    have hj : j < s.data.toList.length := by simpa [sNums] using h
    have : (sNums s)[j] = ((s.data.toList[j]).toNat : Int) := by simp [sNums]
    rw [this]
    have := (s.data.toList[j]).toNat_lt
    omega
  · rw [List.getElem?_eq_none (by omega)]; simp

theorem strOfNums_sNums (s : ByteArray) : strOfNums (sNums s) = s := by
  apply ByteArray.ext
  apply Array.ext'
  simp [strOfNums, sNums, Function.comp_def]

theorem range_append {A B : List Int} (hA : ∀ j : Nat, 0 ≤ A[j]?.getD 0 ∧ A[j]?.getD 0 ≤ 255) (hB : ∀ j : Nat, 0 ≤ B[j]?.getD 0 ∧ B[j]?.getD 0 ≤ 255) :
    ∀ j : Nat, 0 ≤ (A ++ B)[j]?.getD 0 ∧ (A ++ B)[j]?.getD 0 ≤ 255 := by
  intro j
  by_cases h : j < A.length
  · rw [List.getElem?_append_left h]; exact hA j
  · rw [List.getElem?_append_right (by omega)]; exact hB _

/-- A slice that owns its row of bytes X, n long. -/
def OwnB (w : World) (base : Nat) (v : Value) (n : Nat) (X : List Int) : Prop := w.ownsRow base 5 1 v n (X.map (Value.int .u8))

theorem OwnB.len {w : World} {base : Nat} {v : Value} {n : Nat} {X : List Int} (h : OwnB w base v n X) : X.length = n := by
  have := h.1; simpa using this

theorem OwnB.row {w : World} {base : Nat} {v : Value} {n : Nat} {X : List Int} (h : OwnB w base v n X) (hp : 0 < n) (hr : ∀ j : Nat, 0 ≤ X[j]?.getD 0 ∧ X[j]?.getD 0 ≤ 255) :
    ∃ g cap, v = .slice (some ⟨g, 0, none⟩) n cap ∧ base ≤ g ∧ g < w.heap.size ∧ BRow w g 0 n cap X := by
  obtain ⟨g, cap, rfl, hnc, hcm, hg, hgs, hcell⟩ := own_full h hp
  exact ⟨g, cap, rfl, hg, hgs, h.len, hnc, hcm, fun _ => hgs, fun i hi => by rw [Nat.zero_add]; exact hcell i hi, hr⟩

theorem putCells_full (x : Int) (n : Nat) : (putCells x n n).toList = (putL x n).map (Value.int .u8) := by
  simp only [putCells, putL, List.map_map]
  apply List.map_congr_left
  intro i hi
  rw [List.mem_range] at hi
  simp [hi]

theorem put_own (x : Int) (n : Nat) (w : World) (h1 : 1 ≤ n) (h2 : n ≤ 8) (hx : 0 ≤ x) (m : Int) (hm : m = n) :
    Calls Try.prog 96 #[.int .u64 x, .int .i64 m] w fun e w' => ∃ v, e = .returned v ∧ OwnB w' w.heap.size v n (putL x n) ∧ Below w.heap.size w w' := by
  subst hm
  refine (put_yes x n w h1 h2 hx).mono ?_
  rintro e w' ⟨rfl, rfl⟩
  refine ⟨_, rfl, ⟨by simp [putL_length], .inr ⟨w.heap.size, n, putCells x n n, rfl, Nat.le_refl _, heap_alloc_new w _, Nat.le_refl _, by unfold maxLen; omega, by simp [putCells_size], ?_⟩⟩, below_one _ _⟩
  rw [Nat.mul_one, putCells_full, List.take_of_length_le (by simp [putL_length])]

theorem rput_own (x : Int) (n : Nat) (w : World) (h1 : 1 ≤ n) (h2 : n ≤ 8) (hx : 0 ≤ x) (hx2 : x < 18446744073709551616) (m : Int) (hm : m = n) :
    Calls Try.prog 68 #[.int .u64 x, .int .i64 m] w fun e w' => ∃ v, e = .returned v ∧ OwnB w' w.heap.size v n (putL x n) ∧ Below w.heap.size w w' := by
  subst hm
  exact rput_yes x n w h1 h2 hx hx2

set_option maxHeartbeats 400000 in
theorem putInt_any (x : Int) (w : World) :
    Calls Try.prog 66 #[.int .i64 x] w fun e w' => ∃ v, e = .returned v ∧ OwnB w' w.heap.size v 4 (putL (IntKind.u64.wrap x) 4) ∧ Below w.heap.size w w' := by
  go_enter Try.func66, Try.ntmps66
  go_wp2_with fail
  refine (put_own (IntKind.u64.wrap x) 4 _ (by omega) (by omega) (by rw [IntKind.wrap_u64]; omega) _ rfl).mono ?_
  rintro e w1 ⟨v, rfl, ho, hB⟩
  have HO : Hid _ := ho
  clear ho
  go_wp2_with fail
  go_ret
  exact ⟨v, rfl, HO.out, hB⟩

theorem OwnB.join {w : World} {base : Nat} {v : Value} {n m : Nat} {X Y : List Int} {cs : List Value} (h : w.ownsRow base 5 1 v (n + m) (X.map (Value.int .u8) ++ cs)) (hc : cs = Y.map (Value.int .u8)) : OwnB w base v (n + m) (X ++ Y) := by
  subst hc; rw [← List.map_append] at h; exact h

theorem OwnB.block {w : World} {base : Nat} {v : Value} {n : Nat} {X : List Int} (h : OwnB w base v n X) : ∀ k, v.ownBlock = some k → base ≤ k := fun k hk => (World.ownsRow.lt h k hk).1

set_option maxHeartbeats 400000 in
theorem text_yes (s : ByteArray) (w : World) (hs : s.size ≤ 65535) :
    Calls Try.prog 57 #[.string s] w fun e w' => ∃ v, e = .returned (.tuple #[v, .int .i64 0]) ∧ OwnB w' w.heap.size v (2 + s.size) (putL s.size 2 ++ sNums s) ∧ Below w.heap.size w w' := by
  obtain ⟨i0, hi, hz0, hz1, hz2⟩ := info_parts Try.info5
  have HI : Hid (Try.prog.info? 5 = some i0 ∧ i0.zero = some (.int .u8 0) ∧ i0.size = 1 ∧ i0.bytes = 1) := ⟨hi, hz0, hz1, hz2⟩
  clear hi hz0 hz1 hz2
  go_enter Try.func57, Try.ntmps57
  go_wp2_with fail
  refine (put_own s.size 2 _ (by omega) (by omega) (by omega) _ rfl).mono ?_
  rintro e w1 ⟨v, rfl, ho, hB⟩
  have HO : Hid _ := ho
  clear ho
  go_wp2_with (at_builtin; refine Lib.wpList_append_own_string _ rfl (.tmp 10) (.tmp 11) 23 9 rfl w.heap.size 5 i0 Try.underlying23 Try.underlying9 HI.out.1 HI.out.2.1 HI.out.2.2.1 HI.out.2.2.2 _ _ _ rfl HO.out s rfl ?c1 ?c2 ?c3 ?_)
  case c1 => unfold maxLen; omega
  case c2 => omega
  case c3 => exact hB.size
  intro v2 w2 ho2 hg _
  have HO2 : Hid _ := OwnB.join ho2 (sNums_cells s)
  have hB2 : Below w.heap.size w w2 := hB.grown hg hB.size (OwnB.block HO.out)
  clear ho2 hg
  go_wp2_with fail
  go_ret2
  exact ⟨v2, rfl, HO2.out, hB2⟩

set_option maxHeartbeats 400000 in
theorem rtext_yes (s : ByteArray) (w : World) (hs : s.size ≤ 65535) :
    Calls Try.prog 69 #[.string s] w fun e w' => ∃ v, e = .returned (.tuple #[v, .int .i64 0]) ∧ OwnB w' w.heap.size v (2 + s.size) (putL s.size 2 ++ sNums s) ∧ Below w.heap.size w w' := by
  obtain ⟨i0, hi, hz0, hz1, hz2⟩ := info_parts Try.info5
  have HI : Hid (Try.prog.info? 5 = some i0 ∧ i0.zero = some (.int .u8 0) ∧ i0.size = 1 ∧ i0.bytes = 1) := ⟨hi, hz0, hz1, hz2⟩
  clear hi hz0 hz1 hz2
  go_enter Try.func69, Try.ntmps69
  go_wp2_with fail
  refine (rput_own s.size 2 _ (by omega) (by omega) (by omega) (by omega) _ rfl).mono ?_
  rintro e w1 ⟨v, rfl, ho, hB⟩
  have HO : Hid _ := ho
  clear ho
  go_wp2_with (at_builtin; refine Lib.wpList_append_own_string _ rfl (.tmp 12) (.tmp 13) 23 9 rfl w.heap.size 5 i0 Try.underlying23 Try.underlying9 HI.out.1 HI.out.2.1 HI.out.2.2.1 HI.out.2.2.2 _ _ _ rfl HO.out s rfl ?c1 ?c2 ?c3 ?_)
  case c1 => unfold maxLen; omega
  case c2 => omega
  case c3 => exact hB.size
  intro v2 w2 ho2 hg _
  have HO2 : Hid _ := OwnB.join ho2 (sNums_cells s)
  have hB2 : Below w.heap.size w w2 := hB.grown hg hB.size (OwnB.block HO.out)
  clear ho2 hg
  go_wp2_with fail
  go_ret2
  exact ⟨v2, rfl, HO2.out, hB2⟩

set_option maxHeartbeats 400000 in
theorem rlong_yes (s : ByteArray) (w : World) (hs : s.size ≤ 140737488351232) :
    Calls Try.prog 27 #[.string s] w fun e w' => ∃ v, e = .returned v ∧ OwnB w' w.heap.size v (4 + s.size) (putL s.size 4 ++ sNums s) ∧ Below w.heap.size w w' := by
  obtain ⟨i0, hi, hz0, hz1, hz2⟩ := info_parts Try.info5
  have HI : Hid (Try.prog.info? 5 = some i0 ∧ i0.zero = some (.int .u8 0) ∧ i0.size = 1 ∧ i0.bytes = 1) := ⟨hi, hz0, hz1, hz2⟩
  clear hi hz0 hz1 hz2
  go_enter Try.func27, Try.ntmps27
  go_wp2_with fail
  refine (rput_own s.size 4 _ (by omega) (by omega) (by omega) (by omega) _ rfl).mono ?_
  rintro e w1 ⟨v, rfl, ho, hB⟩
  have HO : Hid _ := ho
  clear ho
  go_wp2_with (at_builtin; refine Lib.wpList_append_own_string _ rfl (.tmp 8) (.tmp 9) 23 9 rfl w.heap.size 5 i0 Try.underlying23 Try.underlying9 HI.out.1 HI.out.2.1 HI.out.2.2.1 HI.out.2.2.2 _ _ _ rfl HO.out s rfl ?c1 ?c2 ?c3 ?_)
  case c1 => unfold maxLen; omega
  case c2 => omega
  case c3 => exact hB.size
  intro v2 w2 ho2 hg _
  have HO2 : Hid _ := OwnB.join ho2 (sNums_cells s)
  have hB2 : Below w.heap.size w w2 := hB.grown hg hB.size (OwnB.block HO.out)
  clear ho2 hg
  go_wp2_with fail
  go_ret
  exact ⟨v2, rfl, HO2.out, hB2⟩
end Go.Proofs.Ytcecdklgiocbaaa

namespace Go.Proofs.Ytcecdklgiocbaaa
open Go.RowKit
set_option maxRecDepth 100000
set_option linter.unusedVariables false
set_option linter.unusedSimpArgs false

/-- A slice of bytes that came in: it has the bytes zs; where there are any, its row is known. -/
def IsB (w : World) (a : Option Addr) (len cap : Nat) (zs : List Int) : Prop :=
  zs.length = len ∧ len ≤ cap ∧ cap ≤ maxLen ∧ (a = none → len = 0 ∧ cap = 0) ∧ (0 < len → ∃ b off, a = some ⟨b, off, none⟩ ∧ BRow w b off len cap zs)

theorem IsRow.isB {w : World} {a : Option Addr} {len cap : Nat} {zs : List Int} (h : IsRow .u8 w a len cap zs) : IsB w a len cap (zs.take len) := by
  have hle := h.le
  refine ⟨?_, hle.1, hle.2, ?_, ?_⟩
  · rcases h with ⟨_, rfl, _, rfl⟩ | ⟨y, h, hl, hm, hz, hcell, hwz⟩
    · simp
    · simp; omega
  · rcases h with ⟨_, rfl, _, rfl⟩ | ⟨y, rfl, hl, hm, hz, hcell, hwz⟩
    · intro _; exact ⟨rfl, by assumption⟩
    · intro h; cases h
  · intro hp
    obtain ⟨b, off, rfl, hlc, hm, hz, hb, hcell, hwf⟩ := h.at (by omega)
    refine ⟨b, off, rfl, by simp; omega, hlc, hm, fun _ => hb, fun i hi => ?_, range_of_wf (fun n hn => hwf n (List.mem_of_mem_take hn))⟩
    rw [hcell i (by omega), List.getD_eq_getElem?_getD, List.getD_eq_getElem?_getD, List.getElem?_take_of_lt hi]

theorem IsB.old {w W : World} {a : Option Addr} {len cap : Nat} {zs : List Int} (h : IsB w a len cap zs) (hB : Below w.heap.size w W) : IsB W a len cap zs := by
  obtain ⟨h1, h2, h3, h4, h5⟩ := h
  refine ⟨h1, h2, h3, h4, fun hp => ?_⟩
  obtain ⟨b, off, rfl, hR⟩ := h5 hp
  exact ⟨b, off, rfl, hR.old hB⟩

theorem IsB.conv {w : World} {a : Option Addr} {len cap : Nat} {zs : List Int} (h : IsB w a len cap zs) :
    (convert 23 9 (.slice a len cap)).run Try.prog w = .ok (.string (strOfNums zs)) w := by
  obtain ⟨h1, h2, h3, h4, h5⟩ := h
  by_cases hp : 0 < len
  · obtain ⟨b, off, rfl, hR⟩ := h5 hp
    exact hR.conv
  · obtain rfl : len = 0 := by omega
    obtain rfl : zs = [] := List.eq_nil_of_length_eq_zero h1
    exact conv_void a cap w

theorem IsB.range {w : World} {a : Option Addr} {len cap : Nat} {zs : List Int} (h : IsB w a len cap zs) : ∀ j : Nat, 0 ≤ zs[j]?.getD 0 ∧ zs[j]?.getD 0 ≤ 255 := by
  obtain ⟨h1, h2, h3, h4, h5⟩ := h
  by_cases hp : 0 < len
  · obtain ⟨b, off, rfl, hR⟩ := h5 hp
    exact hR.rng
  · obtain rfl : zs = [] := List.eq_nil_of_length_eq_zero (by omega)
    intro j; simp

theorem IsB.news {w : World} {x : Addr} {len cap : Nat} {zs : List Int} (h : IsB w (some x) len cap zs) :
    ∀ j u, (zs.map (Value.int .u8))[j]? = some u → w.cell? (x.add j) = some u := by
  obtain ⟨h1, h2, h3, h4, h5⟩ := h
  intro j u hj
  have hjl : j < len := by have := (List.getElem?_eq_some_iff.1 hj).1; simp at this; omega
  obtain ⟨b, off, hx, hR⟩ := h5 (by omega)
  cases hx
  have hplain : (⟨b, off, none⟩ : Addr).add j = ⟨b, off + j, none⟩ := by unfold Addr.add; split <;> simp_all
  rw [hplain, hR.cell j hjl, ← hj, List.getElem?_map, List.getD_eq_getElem?_getD, List.getElem?_eq_getElem (by omega)]
  rfl

theorem OwnB.mono {w : World} {base base' : Nat} {v : Value} {n : Nat} {X : List Int} (h : OwnB w base v n X) (hb : base' ≤ base) : OwnB w base' v n X := by
  obtain ⟨h1, h2⟩ := h
  refine ⟨h1, ?_⟩
  rcases h2 with h2 | ⟨g, cap, cur, h3, h4, h5⟩
  · exact .inl h2
  · exact .inr ⟨g, cap, cur, h3, Nat.le_trans hb h4, h5⟩

theorem u64_m1 : putL (IntKind.u64.wrap (-1)) 4 = [255, 255, 255, 255] := by decide +kernel
theorem u64_m2 : putL (IntKind.u64.wrap (-2)) 4 = [255, 255, 255, 254] := by decide +kernel

set_option maxHeartbeats 400000 in
theorem value_null (a : Option Addr) (len cap : Nat) (w : World) :
    Calls Try.prog 22 #[.agg #[.int .i64 0, .slice a len cap]] w fun e w' => ∃ v, e = .returned (.tuple #[v, .int .i64 0]) ∧ OwnB w' w.heap.size v 4 [255, 255, 255, 255] ∧ Below w.heap.size w w' := by
  go_enter Try.func22, Try.ntmps22
  go_wp2_with fail
  refine (putInt_any (-1) _).mono ?_
  rintro e w1 ⟨v, rfl, ho, hB⟩
  rw [u64_m1] at ho
  have HO : Hid (OwnB _ _ _ _ _) := ho
  clear ho
  go_wp2_with fail
  go_ret2
  exact ⟨v, rfl, HO.out.mono (by simp), (below_one _ _).trans (hB.mono (by simp))⟩

set_option maxHeartbeats 400000 in
theorem value_unset (a : Option Addr) (len cap : Nat) (w : World) :
    Calls Try.prog 22 #[.agg #[.int .i64 1, .slice a len cap]] w fun e w' => ∃ v, e = .returned (.tuple #[v, .int .i64 0]) ∧ OwnB w' w.heap.size v 4 [255, 255, 255, 254] ∧ Below w.heap.size w w' := by
  go_enter Try.func22, Try.ntmps22
  go_wp2_with fail
  refine (putInt_any (-2) _).mono ?_
  rintro e w1 ⟨v, rfl, ho, hB⟩
  rw [u64_m2] at ho
  have HO : Hid (OwnB _ _ _ _ _) := ho
  clear ho
  go_wp2_with fail
  go_ret2
  exact ⟨v, rfl, HO.out.mono (by simp), (below_one _ _).trans (hB.mono (by simp))⟩

set_option maxHeartbeats 400000 in
theorem value_none (k : Int) (a : Option Addr) (len cap : Nat) (w : World) (h0 : k ≠ 0) (h1 : k ≠ 1) (h2 : k ≠ 2) :
    Calls Try.prog 22 #[.agg #[.int .i64 k, .slice a len cap]] w fun e w' => e = .returned (.tuple #[.slice none 0 0, .int .i64 1]) ∧ Below w.heap.size w w' := by
  have t0 : (k == 0) = false := by simpa using h0
  have t1 : (k == 1) = false := by simpa using h1
  have t2 : (k == 2) = false := by simpa using h2
  clear h0 h1 h2
  go_enter Try.func22, Try.ntmps22
  go_wp2_with fail
  go_ret2
  exact ⟨rfl, below_one _ _⟩

theorem append_bytes_run {w : World} {base : Nat} {v : Value} {n : Nat} {X : List Int} (hown : OwnB w base v n X) {xa : Option Addr} {len cap : Nat} {zs : List Int} (hB : IsB w xa len cap zs) (hbd : n + len ≤ 140737488355328) (hbase : base ≤ w.heap.size) (ty : TypeId) :
    ∃ v' w', (Builtin.append_ #[23, 23] ty #[v, .slice xa len cap]).run Try.prog w = .ok v' w' ∧ OwnB w' base v' (n + len) (X ++ zs) ∧ Below base w w' := by
  obtain ⟨i0, hi, hz0, hz1, hz2⟩ := info_parts Try.info5
  cases xa with
  | none =>
    obtain ⟨h1, h2, h3, h4, h5⟩ := hB
    obtain ⟨rfl, rfl⟩ := h4 rfl
    obtain rfl : zs = [] := List.eq_nil_of_length_eq_zero h1
    refine ⟨v, w, run_append_owned_none (P := Try.prog) (w := w) base 23 ty 5 i0 1 Try.underlying23 hi v n _ hown, ?_, Below.refl _ _⟩
    rw [List.append_nil]; exact hown
  | some x =>
    have hl : (zs.map (Value.int .u8)).length = len * 1 := by rw [List.length_map, hB.1, Nat.mul_one]
    obtain ⟨v', w', hr, h2, h3, h4⟩ := run_append_own (P := Try.prog) w base 23 ty 5 i0 (.int .u8 0) 1 1 Try.underlying23 hi hz0 hz1 hz2 rfl (by decide) v n _ hown x len cap _ hl hB.news (bytes_one zs) (by unfold maxLen; omega) (by omega) hbase
    refine ⟨v', w', hr, OwnB.join h2 rfl, (Below.refl _ _).grown h3 hbase hown.block⟩

theorem step_append_bytes {ops : Array Oper} {o : Oper} {a : Act} {w : World} {K : Act → World → Prop} {Q : Exit → Act → World → Prop} {E : Prop} (hgd : o.guard = none) (s x : Operand)
    (ho : o.op = .call { callee := .builtin .append, args := #[s, x], argTypes := #[23, 23] })
    {base : Nat} {v : Value} {n : Nat} {X : List Int} (hs : a.eval s = v) (hown : OwnB w base v n X) {xa : Option Addr} {len cap : Nat} {zs : List Int} (hx : a.eval x = .slice xa len cap) (hB : IsB w xa len cap zs) (hbd : n + len ≤ 140737488355328) (hbase : base ≤ w.heap.size)
    (h : ∀ v' w', OwnB w' base v' (n + len) (X ++ zs) → Below base w w' → K (a.put o.dst v') w') :
    if Region.wanted o (yielded ops a.tmps) = true then Oper.wp Try.prog o a w K Q else E := by
  have hw : Region.wanted o (yielded ops a.tmps) = true := by simp [Region.wanted, hgd]
  rw [if_pos hw]
  obtain ⟨v', w', hr, h2, h3⟩ := append_bytes_run hown hB hbd hbase o.type
  unfold Oper.wp
  simp [execOp, ho, resolve, invoke, builtin, hs, hx, hr, Result.andThen]
  exact h v' w' h2 h3

theorem wpList_append_bytes {ops : Array Oper} {rest : List Oper} {o : Oper} {a : Act} {w : World} {Q : Exit → Act → World → Prop} (hgd : o.guard = none) (s x : Operand)
    (ho : o.op = .call { callee := .builtin .append, args := #[s, x], argTypes := #[23, 23] })
    {base : Nat} {v : Value} {n : Nat} {X : List Int} (hs : a.eval s = v) (hown : OwnB w base v n X) {xa : Option Addr} {len cap : Nat} {zs : List Int} (hx : a.eval x = .slice xa len cap) (hB : IsB w xa len cap zs) (hbd : n + len ≤ 140737488355328) (hbase : base ≤ w.heap.size)
    (h : ∀ v' w', OwnB w' base v' (n + len) (X ++ zs) → Below base w w' → wpList Try.prog ops Q rest (a.put o.dst v') w') : wpList Try.prog ops Q (o :: rest) a w := by
  refine wpList_plain hgd fun K hK => ?_
  obtain ⟨v', w', hr, h2, h3⟩ := append_bytes_run hown hB hbd hbase o.type
  unfold Oper.wp
  simp [execOp, ho, resolve, invoke, builtin, hs, hx, hr, Result.andThen]
  exact hK _ _ (h v' w' h2 h3)

/-- putInt behind the box of the argument: what it made, and the box and what it leads to still there. -/
theorem putInt_in (a : Option Addr) (len cap : Nat) (zs : List Int) (w W : World) (h : IsB w a len cap zs) (hl : len ≤ 140737488351232) (hW : Below (w.alloc (.cells #[.int .i64 2, .slice a len cap] 28)).heap.size (w.alloc (.cells #[.int .i64 2, .slice a len cap] 28)) W) :
    Calls Try.prog 66 #[.int .i64 len] W fun e w' => ∃ v, e = .returned v ∧ Hid (OwnB w' (w.heap.size + 1) v 4 (putL len 4)) ∧ Below w.heap.size w w' ∧ Hid (IsB w' a len cap zs) ∧
      w'.cell? ⟨w.heap.size, 1, none⟩ = some (.slice a len cap) ∧ w.heap.size + 1 ≤ w'.heap.size := by
  refine (putInt_any len W).mono ?_
  rintro e w1 ⟨v, rfl, ho, hB⟩
  rw [show IntKind.u64.wrap (len : Int) = len from by rw [IntKind.wrap_u64]; omega] at ho
  have hs := hW.size
  simp at hs
  have hB1 := hW.trans (hB.mono hW.size)
  have hB2 : Below w.heap.size w w1 := (below_one w _).trans (hB1.mono (by simp))
  have hs1 := hB1.size
  simp at hs1
  refine ⟨v, rfl, ho.mono (by omega), hB2, h.old hB2, ?_, by omega⟩
  rw [hB1.cell (by simp)]
  simp [go_sem]

theorem cell_on {w w1 w2 : World} {u : Value} {s : Nat} (hB : Below (s + 1) w1 w2) (h : w1.cell? ⟨s, 1, none⟩ = some u) : w2.cell? ⟨s, 1, none⟩ = some u := (hB.cell (by simp)).trans h

set_option maxHeartbeats 1000000 in
theorem value_set (a : Option Addr) (len cap : Nat) (zs : List Int) (w : World) (h : IsB w a len cap zs) (hsm : len ≤ 140737488351232) :
    Calls Try.prog 22 #[.agg #[.int .i64 2, .slice a len cap]] w fun e w' => ∃ v, e = .returned (.tuple #[v, .int .i64 0]) ∧ OwnB w' w.heap.size v (4 + len) (putL len 4 ++ zs) ∧ Below w.heap.size w w' := by
  have H : Hid (IsB w a len cap zs) := h
  have HBD : Hid (4 + len ≤ 140737488355328) := (by omega : 4 + len ≤ 140737488355328)
  clear h
  go_enter Try.func22, Try.ntmps22
  go_wp2_with fail
  go_region_held3 (fun w' => w'.cell? ⟨w.heap.size, 1, none⟩ = some (.slice a len cap)) (go_keep)
    (first
      | (go_at_call 66; refine (putInt_in a len cap zs w _ H.out hsm ?_).mono ?_; (exact (Below.refl _ _).drew); rintro e w1 ⟨v, rfl, HO, hB, HB, hc1, hs1⟩)
      | (refine step_append_bytes rfl (.tmp 17) (.tmp 19) rfl (by rfl) HO.out (by rfl) HB.out HBD.out hs1 ?_; intro v2 w2 ho2 hB2; have HO2 : Hid (OwnB _ _ _ _ _) := ho2; have hc2 := cell_on (w := w) hB2 hc1; clear ho2))
  go_wp2_with fail
  go_ret2
  exact ⟨v2, rfl, HO2.out.mono (by omega), hB.trans (hB2.mono (by omega))⟩

/-- A row of four bytes that is written out. -/
theorem own_four (w : World) (a b c d : Int) (base H : Nat) (hH : w.heap.size = H) (hb : base ≤ H) : OwnB (w.alloc (.cells #[.int .u8 a, .int .u8 b, .int .u8 c, .int .u8 d] 5)) base (.slice (some ⟨H, 0, none⟩) 4 4) 4 [a, b, c, d] := by
  subst hH
  exact ⟨rfl, .inr ⟨w.heap.size, 4, _, rfl, hb, heap_alloc_new w _, Nat.le_refl _, by unfold maxLen; omega, rfl, rfl⟩⟩

set_option maxHeartbeats 400000 in
theorem rvalue_null (s : ByteArray) (w : World) :
    Calls Try.prog 28 #[.agg #[.int .i64 0, .string s]] w fun e w' => ∃ v, e = .returned (.tuple #[v, .int .i64 0]) ∧ OwnB w' w.heap.size v 4 [255, 255, 255, 255] ∧ Below w.heap.size w w' := by
  go_enter Try.func28, Try.ntmps28
  go_wp2_with fail
  go_ret2
  exact ⟨_, rfl, own_four (w.alloc (.cells #[.int .i64 0, .string s] 43)) 255 255 255 255 w.heap.size (w.heap.size + 1) (by simp) (by omega), (below_one _ _).alloc (by simp) _⟩

set_option maxHeartbeats 400000 in
theorem rvalue_unset (s : ByteArray) (w : World) :
    Calls Try.prog 28 #[.agg #[.int .i64 1, .string s]] w fun e w' => ∃ v, e = .returned (.tuple #[v, .int .i64 0]) ∧ OwnB w' w.heap.size v 4 [255, 255, 255, 254] ∧ Below w.heap.size w w' := by
  go_enter Try.func28, Try.ntmps28
  go_wp2_with fail
  go_ret2
  exact ⟨_, rfl, own_four (w.alloc (.cells #[.int .i64 1, .string s] 43)) 255 255 255 254 w.heap.size (w.heap.size + 1) (by simp) (by omega), (below_one _ _).alloc (by simp) _⟩

set_option maxHeartbeats 400000 in
theorem rvalue_none (k : Int) (s : ByteArray) (w : World) (h0 : k ≠ 0) (h1 : k ≠ 1) (h2 : k ≠ 2) :
    Calls Try.prog 28 #[.agg #[.int .i64 k, .string s]] w fun e w' => e = .returned (.tuple #[.slice none 0 0, .int .i64 1]) ∧ Below w.heap.size w w' := by
  have t0 : (k == 0) = false := by simpa using h0
  have t1 : (k == 1) = false := by simpa using h1
  have t2 : (k == 2) = false := by simpa using h2
  clear h0 h1 h2
  go_enter Try.func28, Try.ntmps28
  go_wp2_with fail
  go_ret2
  exact ⟨rfl, below_one _ _⟩

set_option maxHeartbeats 400000 in
theorem rvalue_set (s : ByteArray) (w : World) (hs : s.size ≤ 140737488351232) :
    Calls Try.prog 28 #[.agg #[.int .i64 2, .string s]] w fun e w' => ∃ v, e = .returned (.tuple #[v, .int .i64 0]) ∧ OwnB w' w.heap.size v (4 + s.size) (putL s.size 4 ++ sNums s) ∧ Below w.heap.size w w' := by
  go_enter Try.func28, Try.ntmps28
  go_wp2_with fail
  refine (rlong_yes s _ hs).mono ?_
  rintro e w1 ⟨v, rfl, ho, hB⟩
  have HO : Hid (OwnB _ _ _ _ _) := ho
  clear ho
  go_wp2_with fail
  go_ret2
  exact ⟨v, rfl, HO.out.mono (by simp), (below_one _ _).trans (hB.mono (by simp))⟩
end Go.Proofs.Ytcecdklgiocbaaa

namespace Go.Proofs.Ytcecdklgiocbaaa
open Go.RowKit
set_option maxRecDepth 100000
set_option linter.unusedVariables false
set_option linter.unusedSimpArgs false

/-- What a text or a value that is got is: its kind, its bytes, how many bytes are done with, the error. -/
structure Ans where
  kind : Int
  bytes : List Int
  done : Nat
  err : Int

def textA (zs : List Int) : Ans :=
  if zs.length < 2 then ⟨0, [], 0, 10⟩ else if ((zs.length - 2 : Nat) : Int) < numTo zs 2 then ⟨0, [], 0, 10⟩ else ⟨0, (zs.drop 2).take (numTo zs 2).toNat, 2 + (numTo zs 2).toNat, 0⟩

def valueA (zs : List Int) : Ans :=
  if zs.length < 4 then ⟨0, [], 0, 10⟩ else if int4 zs < -2 then ⟨0, [], 0, 11⟩ else if int4 zs = -2 then ⟨1, [], 4, 0⟩ else if int4 zs = -1 then ⟨0, [], 4, 0⟩ else
  if ((zs.length - 4 : Nat) : Int) < int4 zs then ⟨0, [], 0, 10⟩ else ⟨2, (zs.drop 4).take (int4 zs).toNat, 4 + (int4 zs).toNat, 0⟩

/-- What is behind: nothing at an error, else the bytes from a place on. -/
def Behind (w : World) (a r : Option Addr) (lr cr : Nat) (zs : List Int) (d : Nat) (er : Int) : Prop :=
  (er ≠ 0 ∧ lr = 0) ∨ (er = 0 ∧ d ≤ zs.length ∧ 0 < zs.length ∧ ∃ b o off, a = some ⟨b, o, none⟩ ∧ r = some ⟨b, off, none⟩ ∧ b < w.heap.size ∧ BRow w b off lr cr (zs.drop d))

theorem Behind.old {w W : World} {a r : Option Addr} {lr cr : Nat} {zs : List Int} {d : Nat} {er : Int} (h : Behind w a r lr cr zs d er) (hB : Below w.heap.size w W) : Behind W a r lr cr zs d er := by
  rcases h with h | ⟨h1, h2, h3, b, o, off, h0, h4, h5, h6⟩
  · exact .inl h
  · exact .inr ⟨h1, h2, h3, b, o, off, h0, h4, Nat.lt_of_lt_of_le h5 hB.size, h6.old hB⟩

theorem str_nil : ByteArray.empty = strOfNums [] := rfl

theorem getText_any {w : World} {a : Option Addr} {len cap : Nat} {zs : List Int} (h : IsB w a len cap zs) (hsm : len ≤ 140737488351232) :
    Calls Try.prog 75 #[.slice a len cap] w fun e w' => ∃ r lr cr, e = .returned (.tuple #[.string (strOfNums (textA zs).bytes), .slice r lr cr, .int .i64 (textA zs).err]) ∧ Hid (Behind w' a r lr cr zs (textA zs).done (textA zs).err) ∧ Below w.heap.size w w' := by
  obtain ⟨h1, h2, h3, h4, h5⟩ := h
  subst h1
  by_cases hl : zs.length < 2
  · simp only [textA, if_pos hl]
    refine (getText_short0 a _ cap w hl).mono ?_
    rintro e w' ⟨rfl, hB⟩
    exact ⟨none, 0, 0, by rw [str_nil], .inl ⟨by decide, rfl⟩, hB⟩
  · obtain ⟨b, off, rfl, hR⟩ := h5 (by omega)
    have hb := hR.lt (by omega)
    simp only [textA, if_neg hl]
    by_cases hn : ((zs.length - 2 : Nat) : Int) < numTo zs 2
    · simp only [if_pos hn]
      refine (getText_short hR (by omega) hn).mono ?_
      rintro e w' ⟨rfl, hB⟩
      exact ⟨none, 0, 0, by rw [str_nil], .inl ⟨by decide, rfl⟩, hB⟩
    · simp only [if_neg hn]
      have h0 := (numTo_bound zs hR.rng 2 (by omega)).1
      obtain ⟨n, hn2⟩ := Int.eq_ofNat_of_zero_le h0
      rw [hn2, Int.toNat_natCast]
      refine (getText_yes hR hsm n (by omega) hn2).mono ?_
      rintro e w' ⟨off', rfl, hR', hB⟩
      exact ⟨_, _, _, rfl, .inr ⟨rfl, by omega, by omega, b, off, off', rfl, rfl, Nat.lt_of_lt_of_le hb hB.size, hR'⟩, hB⟩

theorem BRow.isB {w : World} {b off len cap : Nat} {zs : List Int} (h : BRow w b off len cap zs) : IsB w (some ⟨b, off, none⟩) len cap zs :=
  ⟨h.len_eq, h.le, h.cap_le, (fun e => by cases e), fun _ => ⟨b, off, rfl, h⟩⟩

theorem isB_nil (w : World) : IsB w none 0 0 [] := ⟨rfl, Nat.le_refl _, by unfold maxLen; omega, fun _ => ⟨rfl, rfl⟩, fun h => by omega⟩

/-- A slice's place is new: nil, or a block from base on that is there. -/
def Fresh (base : Nat) (w : World) (x : Option Addr) : Prop := ∀ p, x = some p → base ≤ p.block ∧ p.block < w.heap.size

theorem Fresh.none {base : Nat} {w : World} : Fresh base w Option.none := fun p h => by cases h

theorem Fresh.at {base : Nat} {w : World} {g k : Nat} (h : base ≤ g) (hl : g < w.heap.size) : Fresh base w (some ⟨g, k, Option.none⟩) := fun p e => by cases e; exact ⟨h, hl⟩

theorem getValue_any {w : World} {a : Option Addr} {len cap : Nat} {zs : List Int} (h : IsB w a len cap zs) (hsm : len ≤ 140737488351232) :
    Calls Try.prog 45 #[.slice a len cap] w fun e w' => ∃ r lr cr x lx cx, e = .returned (.tuple #[.agg #[.int .i64 (valueA zs).kind, .slice x lx cx], .slice r lr cr, .int .i64 (valueA zs).err]) ∧ Hid (IsB w' x lx cx (valueA zs).bytes) ∧ Fresh w.heap.size w' x ∧ Hid (Behind w' a r lr cr zs (valueA zs).done (valueA zs).err) ∧ Below w.heap.size w w' := by
  obtain ⟨h1, h2, h3, h4, h5⟩ := h
  subst h1
  by_cases hl : zs.length < 4
  · simp only [valueA, if_pos hl]
    refine (getValue_short0 a _ cap w hl).mono ?_
    rintro e w' ⟨rfl, hB⟩
    exact ⟨none, 0, 0, none, 0, 0, rfl, isB_nil _, Fresh.none, .inl ⟨by decide, rfl⟩, hB⟩
  · obtain ⟨b, off, rfl, hR⟩ := h5 (by omega)
    have hb := hR.lt (by omega)
    simp only [valueA, if_neg hl]
    by_cases hg : int4 zs < -2
    · simp only [if_pos hg]
      refine (getValue_form hR (by omega) hg).mono ?_
      rintro e w' ⟨rfl, hB⟩
      exact ⟨none, 0, 0, none, 0, 0, rfl, isB_nil _, Fresh.none, .inl ⟨by decide, rfl⟩, hB⟩
    · simp only [if_neg hg]
      by_cases hu : int4 zs = -2
      · simp only [if_pos hu]
        refine (getValue_unset hR (by omega) hu).mono ?_
        rintro e w' ⟨off', rfl, hR', hB⟩
        exact ⟨_, _, _, none, 0, 0, rfl, isB_nil _, Fresh.none, .inr ⟨rfl, by omega, by omega, b, off, off', rfl, rfl, Nat.lt_of_lt_of_le hb hB.size, hR'⟩, hB⟩
      · simp only [if_neg hu]
        by_cases hv : int4 zs = -1
        · simp only [if_pos hv]
          refine (getValue_null hR (by omega) hv).mono ?_
          rintro e w' ⟨off', rfl, hR', hB⟩
          exact ⟨_, _, _, none, 0, 0, rfl, isB_nil _, Fresh.none, .inr ⟨rfl, by omega, by omega, b, off, off', rfl, rfl, Nat.lt_of_lt_of_le hb hB.size, hR'⟩, hB⟩
        · simp only [if_neg hv]
          by_cases hn : ((zs.length - 4 : Nat) : Int) < int4 zs
          · simp only [if_pos hn]
            refine (getValue_short hR (by omega) hn).mono ?_
            rintro e w' ⟨rfl, hB⟩
            exact ⟨none, 0, 0, none, 0, 0, rfl, isB_nil _, Fresh.none, .inl ⟨by decide, rfl⟩, hB⟩
          · simp only [if_neg hn]
            obtain ⟨n, hn2⟩ := Int.eq_ofNat_of_zero_le (show 0 ≤ int4 zs by omega)
            rw [hn2, Int.toNat_natCast]
            refine (getValue_set hR hsm n (by omega) hn2).mono ?_
            rintro e w' ⟨off', g, hg, hgl, rfl, hX, hR', hB⟩
            exact ⟨_, _, _, _, _, _, rfl, hX.isB, Fresh.at hg hgl, .inr ⟨rfl, by omega, by omega, b, off, off', rfl, rfl, Nat.lt_of_lt_of_le hb hB.size, hR'⟩, hB⟩
end Go.Proofs.Ytcecdklgiocbaaa

namespace Go.Proofs.Ytcecdklgiocbaaa
open Go.RowKit
set_option maxRecDepth 100000
set_option linter.unusedVariables false
set_option linter.unusedSimpArgs false

/-- An item as the document has it: a key, a text, texts, and a value's kind and bytes. -/
abbrev It := ByteArray × ByteArray × List ByteArray × Int × ByteArray

def It.key (x : It) : ByteArray := x.1
def It.text (x : It) : ByteArray := x.2.1
def It.texts (x : It) : List ByteArray := x.2.2.1
def It.kind (x : It) : Int := x.2.2.2.1
def It.bytes (x : It) : ByteArray := x.2.2.2.2

/-- A slice whose elements, size cells each, are seen as xs. -/
def View {α : Type} [Inhabited α] (size : Nat) (V : World → α → (Nat → Value) → Prop) (w : World) (a : Option Addr) (len cap : Nat) (xs : List α) : Prop :=
  xs.length = len ∧ len ≤ cap ∧ cap ≤ maxLen ∧ (a = none → len = 0 ∧ cap = 0) ∧
  (0 < len → ∃ b off, a = some ⟨b, off, none⟩ ∧ b < w.heap.size ∧ ∀ i, i < len → ∃ c : Nat → Value, (∀ j, j < size → w.cell? ⟨b, off + (i * size + j), none⟩ = some (c j)) ∧ V w (xs.getD i default) c)

/-- What is seen of an item stays, if the blocks that it leads to do. -/
def Stays {α : Type} (size : Nat) (V : World → α → (Nat → Value) → Prop) : Prop :=
  ∀ (w w' : World) (row : Option Nat) (x : α) (c c' : Nat → Value), V w x c → (∀ j, j < size → c' j = c j) → (∀ k, k < w.heap.size → some k ≠ row → w'.heap[k]? = w.heap[k]?) → w.heap.size ≤ w'.heap.size →
    (∀ j k, j < size → (c j).ownBlock = some k → row ≠ some k) → V w' x c'

theorem View.old {α : Type} [Inhabited α] {size : Nat} {V : World → α → (Nat → Value) → Prop} (hV : Stays size V) {w W : World} {a : Option Addr} {len cap : Nat} {xs : List α} (h : View size V w a len cap xs) (hB : Below w.heap.size w W) : View size V W a len cap xs := by
  obtain ⟨h1, h2, h3, h4, h5⟩ := h
  refine ⟨h1, h2, h3, h4, fun hp => ?_⟩
  obtain ⟨b, off, ha, hb, hc⟩ := h5 hp
  refine ⟨b, off, ha, Nat.lt_of_lt_of_le hb hB.size, fun i hi => ?_⟩
  obtain ⟨c, hcell, hv⟩ := hc i hi
  exact ⟨c, fun j hj => (hB.cell (p := ⟨b, off + (i * size + j), none⟩) hb).trans (hcell j hj), hV w W none _ c c hv (fun _ _ => rfl) (fun k hk _ => hB.block k hk) hB.size (fun j k _ _ e => by cases e)⟩

theorem view_nil {α : Type} [Inhabited α] (size : Nat) (V : World → α → (Nat → Value) → Prop) (w : World) : View size V w none 0 0 [] :=
  ⟨rfl, Nat.le_refl _, by unfold maxLen; omega, fun _ => ⟨rfl, rfl⟩, fun h => by omega⟩

def VS (_ : World) (s : ByteArray) (c : Nat → Value) : Prop := c 0 = .string s
def VP (_ : World) (x : ByteArray × ByteArray) (c : Nat → Value) : Prop := c 0 = .string x.1 ∧ c 1 = .string x.2
def VM (w : World) (x : ByteArray × List ByteArray) (c : Nat → Value) : Prop := c 0 = .string x.1 ∧ ∃ a l cp, c 1 = .slice a l cp ∧ View 1 VS w a l cp x.2
def VE (w : World) (x : ByteArray × Int × ByteArray) (c : Nat → Value) : Prop := c 0 = .string x.1 ∧ c 1 = .int .i64 x.2.1 ∧ ∃ a l cp, c 2 = .slice a l cp ∧ IsB w a l cp (sNums x.2.2)
def VI (w : World) (x : It) (c : Nat → Value) : Prop :=
  c 0 = .string x.key ∧ c 1 = .string x.text ∧ (∃ a l cp, c 2 = .slice a l cp ∧ View 1 VS w a l cp x.texts) ∧ c 3 = .int .i64 x.kind ∧ c 4 = .string x.bytes

theorem stays_s : Stays 1 VS := fun _ _ _ _ _ _ h hc _ _ _ => (hc 0 (by omega)).trans h
theorem stays_p : Stays 2 VP := fun _ _ _ _ _ _ h hc _ _ _ => ⟨(hc 0 (by omega)).trans h.1, (hc 1 (by omega)).trans h.2⟩

theorem strs_stay {w w' : World} {row : Option Nat} {a : Option Addr} {l cp : Nat} {ss : List ByteArray} (h : View 1 VS w a l cp ss) (hb : ∀ k, k < w.heap.size → some k ≠ row → w'.heap[k]? = w.heap[k]?) (hs : w.heap.size ≤ w'.heap.size)
    (hne : ∀ k, (Value.slice a l cp).ownBlock = some k → row ≠ some k) : View 1 VS w' a l cp ss := by
  obtain ⟨h1, h2, h3, h4, h5⟩ := h
  refine ⟨h1, h2, h3, h4, fun hp => ?_⟩
  obtain ⟨b, off, rfl, hbs, hc⟩ := h5 hp
  refine ⟨b, off, rfl, Nat.lt_of_lt_of_le hbs hs, fun i hi => ?_⟩
  obtain ⟨c, hcell, hv⟩ := hc i hi
  refine ⟨c, fun j hj => ?_, hv⟩
  rw [World.cell?_of_block (w := w) (w' := w') (a := ⟨b, off + (i * 1 + j), none⟩) (hb b hbs (fun e => hne b rfl e.symm))]
  exact hcell j hj

theorem bytes_stay {w w' : World} {row : Option Nat} {a : Option Addr} {l cp : Nat} {zs : List Int} (h : IsB w a l cp zs) (hb : ∀ k, k < w.heap.size → some k ≠ row → w'.heap[k]? = w.heap[k]?) (hs : w.heap.size ≤ w'.heap.size)
    (hne : ∀ k, (Value.slice a l cp).ownBlock = some k → row ≠ some k) : IsB w' a l cp zs := by
  obtain ⟨h1, h2, h3, h4, h5⟩ := h
  refine ⟨h1, h2, h3, h4, fun hp => ?_⟩
  obtain ⟨b, off, rfl, hR⟩ := h5 hp
  have hbs := hR.lt hp
  refine ⟨b, off, rfl, hR.len_eq, hR.le, hR.cap_le, fun _ => Nat.lt_of_lt_of_le hbs hs, fun i hi => ?_, hR.rng⟩
  rw [World.cell?_of_block (w := w) (w' := w') (a := ⟨b, off + i, none⟩) (hb b hbs (fun e => hne b rfl e.symm))]
  exact hR.cell i hi

theorem stays_m : Stays 2 VM := by
  intro w w' row x c c' h hc hb hs hne
  obtain ⟨h0, a, l, cp, h1, hv⟩ := h
  exact ⟨(hc 0 (by omega)).trans h0, a, l, cp, (hc 1 (by omega)).trans h1, strs_stay hv hb hs (fun k hk => hne 1 k (by omega) (by rw [h1]; exact hk))⟩

theorem stays_e : Stays 3 VE := by
  intro w w' row x c c' h hc hb hs hne
  obtain ⟨h0, h1, a, l, cp, h2, hv⟩ := h
  exact ⟨(hc 0 (by omega)).trans h0, (hc 1 (by omega)).trans h1, a, l, cp, (hc 2 (by omega)).trans h2, bytes_stay hv hb hs (fun k hk => hne 2 k (by omega) (by rw [h2]; exact hk))⟩

theorem stays_i : Stays 5 VI := by
  intro w w' row x c c' h hc hb hs hne
  obtain ⟨h0, h1, ⟨a, l, cp, h2, hv⟩, h3, h4⟩ := h
  exact ⟨(hc 0 (by omega)).trans h0, (hc 1 (by omega)).trans h1, ⟨a, l, cp, (hc 2 (by omega)).trans h2, strs_stay hv hb hs (fun k hk => hne 2 k (by omega) (by rw [h2]; exact hk))⟩, (hc 3 (by omega)).trans h3, (hc 4 (by omega)).trans h4⟩

/-- A slice that owns its row of items; what they lead to lies in other blocks. -/
def Own {α : Type} [Inhabited α] (e : TypeId) (size : Nat) (V : World → α → (Nat → Value) → Prop) (w : World) (base : Nat) (v : Value) (xs : List α) : Prop :=
  ∃ cs : List Value, w.ownsRow base e size v xs.length cs ∧ ∀ i, i < xs.length → V w (xs.getD i default) (fun j => cs.getD (i * size + j) default) ∧
    ∀ j k, j < size → (cs.getD (i * size + j) default).ownBlock = some k → k < w.heap.size ∧ v.ownBlock ≠ some k ∧ base ≤ k

theorem own_nil {α : Type} [Inhabited α] (e : TypeId) (size : Nat) (V : World → α → (Nat → Value) → Prop) (w : World) (base : Nat) : Own e size V w base (.slice none 0 0) ([] : List α) :=
  ⟨[], World.ownsRow_nil _ _ _ _, fun i hi => by simp at hi⟩

theorem Own.lt {α : Type} [Inhabited α] {e : TypeId} {size : Nat} {V : World → α → (Nat → Value) → Prop} {w : World} {base : Nat} {v : Value} {xs : List α} (h : Own e size V w base v xs) : ∀ k, v.ownBlock = some k → base ≤ k ∧ k < w.heap.size := by
  obtain ⟨cs, ho, _⟩ := h
  exact World.ownsRow.lt ho

theorem Own.old {α : Type} [Inhabited α] {e : TypeId} {size : Nat} {V : World → α → (Nat → Value) → Prop} (hV : Stays size V) {w W : World} {base : Nat} {v : Value} {xs : List α} (h : Own e size V w base v xs) (hB : Below w.heap.size w W) : Own e size V W base v xs := by
  obtain ⟨cs, ho, hc⟩ := h
  refine ⟨cs, ?_, fun i hi => ?_⟩
  · refine ⟨ho.1, ?_⟩
    rcases ho.2 with h2 | ⟨g, cap, cur, hv, hg, hh, r⟩
    · exact .inl h2
    · exact .inr ⟨g, cap, cur, hv, hg, by rw [hB.block g (Array.getElem?_eq_some_iff.1 hh).1]; exact hh, r⟩
  · obtain ⟨h1, h2⟩ := hc i hi
    exact ⟨hV w W none _ _ _ h1 (fun _ _ => rfl) (fun k hk _ => hB.block k hk) hB.size (fun j k _ _ e => by cases e), fun j k hj hk => ⟨Nat.lt_of_lt_of_le (h2 j k hj hk).1 hB.size, (h2 j k hj hk).2⟩⟩

theorem Own.mono {α : Type} [Inhabited α] {e : TypeId} {size : Nat} {V : World → α → (Nat → Value) → Prop} {w : World} {base base' : Nat} {v : Value} {xs : List α} (h : Own e size V w base v xs) (hb : base' ≤ base) : Own e size V w base' v xs := by
  obtain ⟨cs, ho, hc⟩ := h
  refine ⟨cs, ⟨ho.1, ?_⟩, fun i hi => ⟨(hc i hi).1, fun j k hj hk => ⟨((hc i hi).2 j k hj hk).1, ((hc i hi).2 j k hj hk).2.1, Nat.le_trans hb ((hc i hi).2 j k hj hk).2.2⟩⟩⟩
  rcases ho.2 with h2 | ⟨g, cap, cur, h3, h4, h5⟩
  · exact .inl h2
  · exact .inr ⟨g, cap, cur, h3, Nat.le_trans hb h4, h5⟩

/-- One block below the base is written: what is owned stays. -/
theorem Own.kept {α : Type} [Inhabited α] {e : TypeId} {size : Nat} {V : World → α → (Nat → Value) → Prop} (hV : Stays size V) {w W : World} {base : Nat} {v : Value} {xs : List α} {row : Option Nat} (h : Own e size V w base v xs) (hb : ∀ k, k < w.heap.size → some k ≠ row → W.heap[k]? = w.heap[k]?)
    (hs : w.heap.size ≤ W.heap.size) (hrow : ∀ k, row = some k → k < base) : Own e size V W base v xs := by
  obtain ⟨cs, ho, hc⟩ := h
  refine ⟨cs, ?_, fun i hi => ?_⟩
  · refine ⟨ho.1, ?_⟩
    rcases ho.2 with h2 | ⟨g, cap, cur, hv, hg, hh, r⟩
    · exact .inl h2
    · exact .inr ⟨g, cap, cur, hv, hg, by rw [hb g (Array.getElem?_eq_some_iff.1 hh).1 (fun e => by have := hrow g e.symm; omega)]; exact hh, r⟩
  · obtain ⟨h1, h2⟩ := hc i hi
    exact ⟨hV w W row _ _ _ h1 (fun _ _ => rfl) hb hs (fun j k hj hk e => by have := hrow k e; have := (h2 j k hj hk).2.2; omega), fun j k hj hk => ⟨Nat.lt_of_lt_of_le (h2 j k hj hk).1 hs, (h2 j k hj hk).2⟩⟩

/-- What is owned, seen. -/
theorem Own.view {α : Type} [Inhabited α] {e : TypeId} {size : Nat} {V : World → α → (Nat → Value) → Prop} {w : World} {base : Nat} {v : Value} {xs : List α} (h : Own e size V w base v xs) :
    ∃ a cap, v = .slice a xs.length cap ∧ View size V w a xs.length cap xs ∧ Fresh base w a := by
  obtain ⟨cs, ho, hc⟩ := h
  have ho' := ho
  obtain ⟨hlen, h2⟩ := ho'
  rcases h2 with ⟨rfl, h0⟩ | ⟨g, cap, cur, rfl, hg, hh, hnc, hm, hs, htake⟩
  · obtain rfl : xs = [] := List.eq_nil_of_length_eq_zero h0
    exact ⟨none, 0, rfl, view_nil _ _ _, Fresh.none⟩
  · have hgs := (Array.getElem?_eq_some_iff.1 hh).1
    refine ⟨_, cap, rfl, ⟨rfl, hnc, hm, (fun e => by cases e), fun hp => ⟨g, 0, rfl, hgs, fun i hi => ⟨_, fun j hj => ?_, (hc i hi).1⟩⟩⟩, Fresh.at hg hgs⟩
    have hij : i * size + j < xs.length * size := by
      have : (i + 1) * size ≤ xs.length * size := Nat.mul_le_mul_right _ hi
      rw [Nat.succ_mul] at this
      omega
    rw [Nat.zero_add]
    have hcell := ho.cells (g := g) rfl (i * size + j) (cs.getD (i * size + j) default) (by rw [List.getD_eq_getElem?_getD, List.getElem?_eq_getElem (by omega)]; rfl)
    have hplain : (⟨g, 0, none⟩ : Addr).add (i * size + j) = ⟨g, i * size + j, none⟩ := by unfold Addr.add; split <;> simp_all
    rw [hplain] at hcell
    exact hcell

/-- What the program's table says of a type of slices. -/
def Elem (t e : TypeId) (size bytes : Nat) : Prop :=
  0 < size ∧ Try.prog.underlying t = some (.slice e) ∧ ∃ i z, Try.prog.info? e = some i ∧ i.zero = some z ∧ i.size = size ∧ i.bytes = bytes ∧ z.cells.size = size

theorem getD_append_left' {cs news : List Value} {n : Nat} (h : n < cs.length) : (cs ++ news).getD n default = cs.getD n default := by
  rw [List.getD_eq_getElem?_getD, List.getD_eq_getElem?_getD, List.getElem?_append_left h]

theorem getD_append_right' {cs news : List Value} (n j : Nat) (h : n = cs.length + j) : (cs ++ news).getD n default = news.getD j default := by
  subst h
  rw [List.getD_eq_getElem?_getD, List.getD_eq_getElem?_getD, List.getElem?_append_right (by omega)]
  congr 2; omega

/-- append of one item onto a slice that owns its row. -/
theorem append_item_run {α : Type} [Inhabited α] {t e : TypeId} {size bytes : Nat} {V : World → α → (Nat → Value) → Prop} (hV : Stays size V) (hE : Elem t e size bytes) {w : World} {base : Nat} {v : Value} {xs : List α} (h : Own e size V w base v xs)
    {B : Nat} {news : List Value} {tt : TypeId} {fr : Nat × Nat} (hB : w.heap[B]? = some (.cells news.toArray tt fr)) (hn : news.length = size) (h1 : ∀ u ∈ news, u.oneCell' = true) (x : α) (hx : V w x (fun j => news.getD j default))
    (hxb : ∀ j k, j < size → (news.getD j default).ownBlock = some k → k < w.heap.size ∧ v.ownBlock ≠ some k ∧ base ≤ k) (h63 : xs.length + 1 ≤ maxLen) (hbd : (xs.length + 1) * bytes ≤ 140737488355328) (hbase : base ≤ w.heap.size) (ty : TypeId) (c : Nat) :
    ∃ v' w', (Builtin.append_ #[t, t] ty #[v, .slice (some ⟨B, 0, none⟩) 1 c]).run Try.prog w = .ok v' w' ∧ Own e size V w' base v' (xs ++ [x]) ∧ Below base w w' := by
  obtain ⟨hsz, ht, i, z, hi, hz, hsize, hby, hzs⟩ := hE
  obtain ⟨cs, ho, hc⟩ := h
  have hcl := ho.1
  obtain ⟨g, cap, w', hr, ho', hg, hat, hlt⟩ := run_append_lies (P := Try.prog) w t ty base e i z size bytes ht hi hz hsize hby hzs hsz v xs.length cs ho ⟨B, 0, none⟩ 1 c news (by rw [hn, Nat.one_mul]) (World.news_of_block hB) h1 (by omega) h63 hbd hbase _ rfl
  refine ⟨_, w', hr, ⟨cs ++ news, by rw [List.length_append]; exact ho', fun i hi => ?_⟩, (Below.refl _ _).grown hg hbase (fun k hk => (World.ownsRow.lt ho k hk).1)⟩
  have far : ∀ k, k < w.heap.size → v.ownBlock ≠ some k → (Value.slice (some ⟨g, 0, none⟩) (xs.length + 1) cap).ownBlock ≠ some k := by
    intro k hk hne e
    simp only [Value.ownBlock, Option.some.injEq] at e
    rcases hat with hat | hat
    · exact hne (by rw [hat, e])
    · omega
  simp only [List.length_append, List.length_singleton] at hi
  by_cases hlt2 : i < xs.length
  · have hij : ∀ j, j < size → (cs ++ news).getD (i * size + j) default = cs.getD (i * size + j) default := fun j hj => by
      have : (i + 1) * size ≤ xs.length * size := Nat.mul_le_mul_right _ hlt2
      rw [Nat.succ_mul] at this
      exact getD_append_left' (by omega)
    obtain ⟨hv, hb⟩ := hc i hlt2
    have hxi : (xs ++ [x]).getD i default = xs.getD i default := by rw [List.getD_eq_getElem?_getD, List.getD_eq_getElem?_getD, List.getElem?_append_left hlt2]
    rw [hxi]
    refine ⟨hV w w' v.ownBlock _ _ _ hv (fun j hj => hij j hj) hg.block hg.size (fun j k hj hk => (hb j k hj hk).2.1), fun j k hj hk => ?_⟩
    rw [hij j hj] at hk
    obtain ⟨hb1, hb2, hb3⟩ := hb j k hj hk
    exact ⟨Nat.lt_of_lt_of_le hb1 hg.size, far k hb1 hb2, hb3⟩
  · obtain rfl : i = xs.length := by omega
    have hij : ∀ j, j < size → (cs ++ news).getD (xs.length * size + j) default = news.getD j default := fun j hj => getD_append_right' _ j (by omega)
    have hxi : (xs ++ [x]).getD xs.length default = x := by rw [List.getD_eq_getElem?_getD]; simp
    rw [hxi]
    refine ⟨hV w w' v.ownBlock _ _ _ hx (fun j hj => hij j hj) hg.block hg.size (fun j k hj hk => (hxb j k hj hk).2.1), fun j k hj hk => ?_⟩
    rw [hij j hj] at hk
    obtain ⟨hb1, hb2, hb3⟩ := hxb j k hj hk
    exact ⟨Nat.lt_of_lt_of_le hb1 hg.size, far k hb1 hb2, hb3⟩

theorem wpList_append_item {ops : Array Oper} {rest : List Oper} {o : Oper} {a : Act} {Q : Exit → Act → World → Prop} {w : World} (hgd : o.guard = none) (s y : Operand) (t : TypeId)
    (ho : o.op = .call { callee := .builtin .append, args := #[s, y], argTypes := #[t, t] })
    {α : Type} [Inhabited α] {e : TypeId} {size bytes : Nat} {V : World → α → (Nat → Value) → Prop} (hV : Stays size V) (hE : Elem t e size bytes) {base : Nat} {v : Value} {xs : List α} (hs : a.eval s = v) (h : Own e size V w base v xs)
    {B c : Nat} {news : List Value} {tt : TypeId} {fr : Nat × Nat} (hy : a.eval y = .slice (some ⟨B, 0, none⟩) 1 c) (hB : w.heap[B]? = some (.cells news.toArray tt fr)) (hn : news.length = size) (h1 : ∀ u ∈ news, u.oneCell' = true) (x : α) (hx : V w x (fun j => news.getD j default))
    (hxb : ∀ j k, j < size → (news.getD j default).ownBlock = some k → k < w.heap.size ∧ v.ownBlock ≠ some k ∧ base ≤ k) (h63 : xs.length + 1 ≤ maxLen) (hbd : (xs.length + 1) * bytes ≤ 140737488355328) (hbase : base ≤ w.heap.size)
    (hk : ∀ v' w', Own e size V w' base v' (xs ++ [x]) → Below base w w' → wpList Try.prog ops Q rest (a.put o.dst v') w') : wpList Try.prog ops Q (o :: rest) a w := by
  refine wpList_plain hgd fun K hK => ?_
  obtain ⟨v', w', hr, h2, h3⟩ := append_item_run hV hE h hB hn h1 x hx hxb h63 hbd hbase o.type c
  unfold Oper.wp
  simp [execOp, ho, resolve, invoke, builtin, hs, hy, hr, Result.andThen]
  exact hK _ _ (hk v' w' h2 h3)

theorem Try.info9 : (Try.prog.info? 9).map (fun i => (i.zero, i.size, i.bytes)) = some (some (.string ⟨#[]⟩), 1, 16) := by kernel_rfl
theorem Try.info87 : (Try.prog.info? 87).map (fun i => (i.zero, i.size, i.bytes)) = some (some (.agg #[.string ⟨#[]⟩, .string ⟨#[]⟩]), 2, 32) := by kernel_rfl
theorem Try.info28 : (Try.prog.info? 28).map (fun i => (i.zero, i.size, i.bytes)) = some (some (.agg #[.int .i64 0, .slice none 0 0]), 2, 32) := by kernel_rfl
theorem Try.info60 : (Try.prog.info? 60).map (fun i => (i.zero, i.size, i.bytes)) = some (some (.agg #[.bool false, .string ⟨#[]⟩, .slice none 0 0, .slice none 0 0]), 4, 72) := by kernel_rfl
theorem Try.info89 : (Try.prog.info? 89).map (fun i => (i.zero, i.size, i.bytes)) = some (some (.agg #[.string ⟨#[]⟩, .string ⟨#[]⟩, .slice none 0 0, .int .i64 0, .string ⟨#[]⟩]), 5, 80) := by kernel_rfl
theorem Try.info43 : (Try.prog.info? 43).map (fun i => (i.zero, i.size, i.bytes)) = some (some (.agg #[.int .i64 0, .string ⟨#[]⟩]), 2, 24) := by kernel_rfl
theorem Try.info82 : (Try.prog.info? 82).map (fun i => (i.zero, i.size, i.bytes)) = some (some (.agg #[.bool false, .string ⟨#[]⟩, .string ⟨#[]⟩, .slice none 0 0]), 4, 64) := by kernel_rfl
theorem elem_s : Elem 26 9 1 16 := by
  obtain ⟨i0, hi, hz0, hz1, hz2⟩ := info_parts Try.info9
  exact ⟨by decide, Try.underlying26, i0, _, hi, hz0, hz1, hz2, rfl⟩
theorem elem_p : Elem 22 87 2 32 := by
  obtain ⟨i0, hi, hz0, hz1, hz2⟩ := info_parts Try.info87
  exact ⟨by decide, Try.underlying22, i0, _, hi, hz0, hz1, hz2, rfl⟩
theorem elem_v : Elem 25 28 2 32 := by
  obtain ⟨i0, hi, hz0, hz1, hz2⟩ := info_parts Try.info28
  exact ⟨by decide, Try.underlying25, i0, _, hi, hz0, hz1, hz2, rfl⟩
theorem elem_t : Elem 31 60 4 72 := by
  obtain ⟨i0, hi, hz0, hz1, hz2⟩ := info_parts Try.info60
  exact ⟨by decide, Try.underlying31, i0, _, hi, hz0, hz1, hz2, rfl⟩
theorem elem_i : Elem 40 89 5 80 := by
  obtain ⟨i0, hi, hz0, hz1, hz2⟩ := info_parts Try.info89
  exact ⟨by decide, Try.underlying40, i0, _, hi, hz0, hz1, hz2, rfl⟩
theorem elem_rv : Elem 41 43 2 24 := by
  obtain ⟨i0, hi, hz0, hz1, hz2⟩ := info_parts Try.info43
  exact ⟨by decide, Try.underlying41, i0, _, hi, hz0, hz1, hz2, rfl⟩
theorem elem_rs : Elem 46 82 4 64 := by
  obtain ⟨i0, hi, hz0, hz1, hz2⟩ := info_parts Try.info82
  exact ⟨by decide, Try.underlying46, i0, _, hi, hz0, hz1, hz2, rfl⟩

/-- What is got: what it is, how many bytes are done with, the error. -/
structure Res (α : Type) where
  val : α
  done : Nat
  err : Int

def textR (zs : List Int) : Res ByteArray := ⟨strOfNums (textA zs).bytes, (textA zs).done, (textA zs).err⟩
def valueR (zs : List Int) : Res (Int × ByteArray) := ⟨((valueA zs).kind, strOfNums (valueA zs).bytes), (valueA zs).done, (valueA zs).err⟩

/-- So many items from place d on, behind those that are got already. -/
def goR {α : Type} (p : List Int → Res α) (zs : List Int) : Nat → Nat → List α → Res (List α)
  | 0, d, acc => ⟨acc, d, 0⟩
  | n + 1, d, acc => if (p (zs.drop d)).err = 0 then goR p zs n (d + (p (zs.drop d)).done) (acc ++ [(p (zs.drop d)).val]) else ⟨[], 0, (p (zs.drop d)).err⟩

/-- A list: how many, as a short, and the items. -/
def listR {α : Type} (p : List Int → Res α) (zs : List Int) : Res (List α) :=
  if zs.length < 2 then ⟨[], 0, 10⟩ else goR p zs (numTo zs 2).toNat 2 []

/-- A key, and what belongs to it. -/
def keyR {α : Type} [Inhabited α] (q : List Int → Res α) (zs : List Int) : Res (ByteArray × α) :=
  if (textR zs).err = 0 then
    if (q (zs.drop (textR zs).done)).err = 0 then ⟨((textR zs).val, (q (zs.drop (textR zs).done)).val), (textR zs).done + (q (zs.drop (textR zs).done)).done, 0⟩
    else ⟨(ByteArray.empty, default), 0, (q (zs.drop (textR zs).done)).err⟩
  else ⟨(ByteArray.empty, default), 0, (textR zs).err⟩
end Go.Proofs.Ytcecdklgiocbaaa

namespace Go.Proofs.Ytcecdklgiocbaaa
open Go.RowKit
set_option maxRecDepth 100000
set_option linter.unusedVariables false
set_option linter.unusedSimpArgs false

theorem getText_r {w : World} {a : Option Addr} {len cap : Nat} {zs : List Int} (h : IsB w a len cap zs) (hsm : len ≤ 140737488351232) {X : Res ByteArray} (hX : X = textR zs) :
    Calls Try.prog 75 #[.slice a len cap] w fun e w' => ∃ r lr cr, e = .returned (.tuple #[.string X.val, .slice r lr cr, .int .i64 X.err]) ∧ Hid (Behind w' a r lr cr zs X.done X.err) ∧ Below w.heap.size w w' := by
  subst hX; exact getText_any h hsm

set_option maxHeartbeats 400000 in
theorem getItemS {w : World} {a : Option Addr} {len cap : Nat} {zs : List Int} (h : IsB w a len cap zs) (hsm : len ≤ 140737488351232) {X : Res ByteArray} (hX : X = textR zs) :
    Calls Try.prog 87 #[.slice a len cap] w fun e w' => ∃ r lr cr, e = .returned (.tuple #[.string X.val, .slice r lr cr, .int .i64 X.err]) ∧ Hid (Behind w' a r lr cr zs X.done X.err) ∧ Below w.heap.size w w' := by
  have H : Hid _ := h
  have HX : Hid _ := hX
  clear h hX
  go_enter Try.func87, Try.ntmps87
  go_wp2_with fail
  refine (getText_r H.out hsm HX.out).mono ?_
  rintro e w1 ⟨r, lr, cr, rfl, HB, hB⟩
  go_wp2_with fail
  go_ret3
  exact ⟨r, lr, cr, rfl, HB, hB⟩

theorem goR_step {α : Type} {p : List Int → Res α} {zs : List Int} {k n d : Nat} {acc : List α} {X : Res (List α)} (h : goR p zs (n - k) d acc = X) (hk : k < n) (he : (p (zs.drop d)).err = 0) :
    goR p zs (n - (k + 1)) (d + (p (zs.drop d)).done) (acc ++ [(p (zs.drop d)).val]) = X := by
  rw [show n - k = (n - (k + 1)) + 1 by omega, goR, if_pos he] at h
  exact h

theorem goR_stop {α : Type} {p : List Int → Res α} {zs : List Int} {k n d : Nat} {acc : List α} {X : Res (List α)} (h : goR p zs (n - k) d acc = X) (hk : k < n) (he : (p (zs.drop d)).err ≠ 0) :
    X = ⟨[], 0, (p (zs.drop d)).err⟩ := by
  rw [show n - k = (n - (k + 1)) + 1 by omega, goR, if_neg he] at h
  exact h.symm

theorem goR_end {α : Type} {p : List Int → Res α} {zs : List Int} {k n d : Nat} {acc : List α} {X : Res (List α)} (h : goR p zs (n - k) d acc = X) (hk : n ≤ k) : X = ⟨acc, d, 0⟩ := by
  rw [show n - k = 0 by omega, goR] at h
  exact h.symm

theorem Behind.row {w : World} {b o : Nat} {r : Option Addr} {lr cr : Nat} {zs : List Int} {d : Nat} {er : Int} (h : Behind w (some ⟨b, o, none⟩) r lr cr zs d er) (he : er = 0) : d ≤ zs.length ∧ ∃ off, r = some ⟨b, off, none⟩ ∧ BRow w b off lr cr (zs.drop d) := by
  rcases h with ⟨h, _⟩ | ⟨_, h1, _, h2⟩
  · exact absurd he h
  · obtain ⟨b', o', off, ha, hr, _, hR⟩ := h2
    cases ha
    exact ⟨h1, off, hr, hR⟩

theorem BRow.len_le {w : World} {b off len cap : Nat} {zs : List Int} (h : BRow w b off len cap zs) : len = zs.length := h.len_eq.symm

set_option maxHeartbeats 1000000 in
theorem getS_yes {w : World} {b off len cap : Nat} {zs : List Int} (h : BRow w b off len cap zs) (hb : b < w.heap.size) (hsm : len ≤ 140737488351232) (hl : 2 ≤ len) {Y : Res (List ByteArray)} (hY : Y = listR textR zs) :
    Calls Try.prog 86 #[.slice (some ⟨b, off, none⟩) len cap, .func (.func 87) #[] #[]] w fun e w' => ∃ v r lr cr, e = .returned (.tuple #[v, .slice r lr cr, .int .i64 Y.err]) ∧
      Hid (Own 9 1 VS w' w.heap.size v Y.val) ∧ Hid (Behind w' (some ⟨b, off, none⟩) r lr cr zs Y.done Y.err) ∧ Below w.heap.size w w' := by
  have hz := h.len_eq
  obtain ⟨N, hN⟩ := Int.eq_ofNat_of_zero_le (numTo_bound zs h.rng 2 (by omega)).1
  have hN2 := (numTo_bound zs h.rng 2 (by omega)).2
  rw [hN] at hN2
  have hN3 : N < 65536 := by have h4 : (256 : Int) ^ 2 = 65536 := by decide
                             omega
  have HL : Hid (Y = goR textR zs N 2 []) := by
    show _ = _
    rw [hY, listR, if_neg (by omega), hN, Int.toNat_natCast]
  have H : Hid (BRow w b off len cap zs) := h
  have HN : Hid (numTo zs 2 = N) := hN
  have HZ : Hid (zs.length = len) := hz
  clear h hN hN2 hz hY
  go_enter Try.func86, Try.ntmps86
  go_wp2_with fail
  refine (bget H.out 2 (by omega) (by omega) hl _ rfl).mono ?_
  rintro e w1 ⟨off1, rfl, hR1, hB1⟩
  rw [HN.out]
  have HR1 : Hid (BRow _ _ _ _ _ _) := hR1
  clear hR1
  go_wp2_with fail
  go_loopw [8, 10, 22] (fun r l i wr => ∃ k d off lr cr acc, k ≤ N ∧ i = .int .u64 k ∧ r = .slice (some ⟨b, off, none⟩) lr cr ∧ Hid (BRow wr b off lr cr (zs.drop d)) ∧ d ≤ len ∧ Hid (Own 9 1 VS wr w.heap.size l acc) ∧ acc.length = k ∧
      Hid (goR textR zs (N - k) d acc = Y) ∧ Below w.heap.size w wr) (fun _ _ i _ => N - (intOf i).toNat)
  case atStart => exact ⟨0, 2, off1, _, _, [], by omega, rfl, rfl, HR1, hl, own_nil _ _ _ _ _, rfl, HL.out.symm, hB1⟩
  case round =>
    obtain ⟨k, d, off', lr, cr, acc, hk, rfl, rfl, HR, hd, HO, hacc, HG, hB⟩ := hrel
    by_cases hlt : k < N
    · have HLR : Hid (lr ≤ 140737488351232) := by
        show _ ≤ _
        rw [HR.out.len_le, List.length_drop, HZ.out]; omega
      obtain ⟨X, hX⟩ : ∃ X, X = textR (zs.drop d) := ⟨_, rfl⟩
      have HX : Hid _ := hX
      clear hX
      go_wp2_with fail
      refine (getItemS HR.out.isB HLR.out HX.out).mono ?_
      rintro e w2 ⟨r2, lr2, cr2, rfl, HB2, hB2⟩
      by_cases he : X.err = 0
      · obtain ⟨hd2, off2, rfl, hR2⟩ := HB2.out.row he
        rw [List.drop_drop] at hR2
        rw [List.length_drop, HZ.out] at hd2
        have HG2 : Hid (goR textR zs (N - (k + 1)) (d + X.done) (acc ++ [X.val]) = Y) := by
          have := goR_step HG.out hlt (by rw [← HX.out]; exact he)
          rw [← HX.out] at this
          exact this
        have hbs := hB.size
        have hbs2 := hB2.size
        have HO2 : Hid (Own 9 1 VS (w2.alloc (.cells #[.string X.val] 9)) w.heap.size u10 acc) := HO.out.old stays_s (hB2.alloc hbs2 _)
        have HBN : Hid ((w2.alloc (.cells #[.string X.val] 9)).heap[w2.heap.size]? = some (.cells [Value.string X.val].toArray 9 (0, 0))) := heap_alloc_new w2 _
        have HR2 : Hid (BRow w2 b off2 lr2 cr2 (zs.drop (d + X.done))) := hR2
        clear hR2
        rw [he]
        go_wp2_with (at_builtin; refine wpList_append_item rfl (.tmp 34) (.tmp 36) 26 rfl stays_s elem_s rfl HO2.out rfl HBN.out rfl ?c1 X.val rfl ?c2 ?c3 ?c4 ?c5 ?_)
        case c1 => intro u hu; simp at hu; subst hu; rfl
        case c2 => intro j k hj hk; obtain rfl : j = 0 := by omega
                   simp [Value.ownBlock] at hk
        case c3 => unfold maxLen; omega
        case c4 => omega
        case c5 => simp; omega
        intro v3 w3 ho3 hB3
        have HO3 : Hid (Own 9 1 VS w3 w.heap.size v3 (acc ++ [X.val])) := ho3
        have hB03 : Below w.heap.size w w3 := ((hB.trans (hB2.mono hbs)).alloc (by omega) _).trans hB3
        have HR3 : Hid (BRow w3 b off2 lr2 cr2 (zs.drop (d + X.done))) := (HR2.out.old (below_one w2 _)).below hB3 (fun _ => hb)
        clear ho3
        go_wp2_with fail
        go_roundw
        case rel => exact ⟨k + 1, d + X.done, off2, lr2, cr2, acc ++ [X.val], by omega, by go_num, rfl, HR3, by omega, HO3, by simp [hacc], HG2, hB03⟩
        case measure => simp [intOf]; omega
      · have t : (X.err == 0) = false := by simpa using he
        have HE := goR_stop HG.out hlt (by rw [← HX.out]; exact he)
        go_wp2_with fail
        go_ret3
        exact ⟨.slice none 0 0, none, 0, 0, by rw [HE, ← HX.out]; rfl, by rw [HE]; exact own_nil _ _ _ _ _, by rw [HE, ← HX.out]; exact .inl ⟨he, rfl⟩, hB.trans (hB2.mono hB.size)⟩
    · have HE := goR_end HG.out (by omega)
      have hd' := HZ.out
      go_wp2_with fail
      go_ret3
      exact ⟨_, _, _, _, by rw [HE]; rfl, by rw [HE]; exact HO, by rw [HE]; exact .inr ⟨rfl, (show d ≤ zs.length by omega), by omega, b, off, off', rfl, rfl, Nat.lt_of_lt_of_le hb hB.size, HR.out⟩, hB⟩

theorem getS_short (a : Option Addr) (len cap : Nat) (w : World) (hl : len < 2) :
    Calls Try.prog 86 #[.slice a len cap, .func (.func 87) #[] #[]] w fun e w' => e = .returned (.tuple #[.slice none 0 0, .slice none 0 0, .int .i64 10]) ∧ Below w.heap.size w w' := by
  go_enter Try.func86, Try.ntmps86
  go_wp2_with fail
  refine (bget_short a len cap 2 _ (by omega) (by omega) hl _ rfl).mono ?_
  rintro e w1 ⟨rfl, rfl⟩
  go_wp2_with fail
  go_ret3
  exact ⟨rfl, Below.refl _ _⟩

theorem getS_any {w : World} {a : Option Addr} {len cap : Nat} {zs : List Int} (h : IsB w a len cap zs) (hsm : len ≤ 140737488351232) {Y : Res (List ByteArray)} (hY : Y = listR textR zs) :
    Calls Try.prog 86 #[.slice a len cap, .func (.func 87) #[] #[]] w fun e w' => ∃ v r lr cr, e = .returned (.tuple #[v, .slice r lr cr, .int .i64 Y.err]) ∧
      Hid (Own 9 1 VS w' w.heap.size v Y.val) ∧ Hid (Behind w' a r lr cr zs Y.done Y.err) ∧ Below w.heap.size w w' := by
  obtain ⟨h1, h2, h3, h4, h5⟩ := h
  by_cases hl : len < 2
  · rw [listR, if_pos (by omega)] at hY
    subst hY
    refine (getS_short a len cap w hl).mono ?_
    rintro e w' ⟨rfl, hB⟩
    exact ⟨_, _, _, _, rfl, own_nil _ _ _ _ _, .inl ⟨(by decide : (10 : Int) ≠ 0), rfl⟩, hB⟩
  · obtain ⟨b, off, rfl, hR⟩ := h5 (by omega)
    exact getS_yes hR (hR.lt (by omega)) hsm (by omega) hY

set_option maxHeartbeats 400000 in
theorem getTexts_any {w : World} {a : Option Addr} {len cap : Nat} {zs : List Int} (h : IsB w a len cap zs) (hsm : len ≤ 140737488351232) {Y : Res (List ByteArray)} (hY : Y = listR textR zs) :
    Calls Try.prog 43 #[.slice a len cap] w fun e w' => ∃ v r lr cr, e = .returned (.tuple #[v, .slice r lr cr, .int .i64 Y.err]) ∧
      Hid (Own 9 1 VS w' w.heap.size v Y.val) ∧ Hid (Behind w' a r lr cr zs Y.done Y.err) ∧ Below w.heap.size w w' := by
  have H : Hid _ := h
  have HY : Hid _ := hY
  clear h hY
  go_enter Try.func43, Try.ntmps43
  go_wp2_with fail
  refine (getS_any H.out hsm HY.out).mono ?_
  rintro e w1 ⟨v, r, lr, cr, rfl, HO, HB, hB⟩
  go_wp2_with fail
  go_ret3
  exact ⟨v, r, lr, cr, rfl, HO, HB, hB⟩
end Go.Proofs.Ytcecdklgiocbaaa

namespace Go.Proofs.Ytcecdklgiocbaaa
open Go.RowKit
set_option maxRecDepth 100000
set_option linter.unusedVariables false
set_option linter.unusedSimpArgs false

theorem Behind.part {w : World} {a r : Option Addr} {lr cr : Nat} {zs : List Int} {d : Nat} {er : Int} (h : Behind w a r lr cr zs d er) (he : er = 0) : d ≤ zs.length ∧ IsB w r lr cr (zs.drop d) ∧ lr ≤ zs.length := by
  rcases h with ⟨h, _⟩ | ⟨_, h1, _, b, o, off, rfl, rfl, _, hR⟩
  · exact absurd he h
  · refine ⟨h1, hR.isB, ?_⟩
    have := hR.len_eq
    rw [List.length_drop] at this
    omega

theorem Behind.join {w W : World} {a r r2 : Option Addr} {lr cr l2 c2 : Nat} {zs : List Int} {d d2 : Nat} {er e2 : Int} (h : Behind w a r lr cr zs d er) (he : er = 0) (h2 : Behind W r r2 l2 c2 (zs.drop d) d2 e2) (he2 : e2 = 0) :
    Behind W a r2 l2 c2 zs (d + d2) 0 := by
  rcases h with ⟨h, _⟩ | ⟨_, h1, hp, b, o, off, rfl, rfl, _, hR⟩
  · exact absurd he h
  rcases h2 with ⟨h, _⟩ | ⟨_, h3, _, b', o', off', hb, rfl, hlt, hR'⟩
  · exact absurd he2 h
  cases hb
  rw [List.drop_drop] at hR'
  rw [List.length_drop] at h3
  exact .inr ⟨rfl, by omega, hp, b, o, off', rfl, rfl, hlt, hR'⟩

theorem Behind.below {w W : World} {a r : Option Addr} {lr cr : Nat} {zs : List Int} {d : Nat} {er : Int} {B : Nat} (h : Behind w a r lr cr zs d er) (hB : Below B w W) (hb : ∀ p, a = some p → 0 < zs.length → p.block < B) : Behind W a r lr cr zs d er := by
  rcases h with h | ⟨h1, h2, h3, b, o, off, h0, h4, h5, h6⟩
  · exact .inl h
  · exact .inr ⟨h1, h2, h3, b, o, off, h0, h4, Nat.lt_of_lt_of_le h5 hB.size, h6.below hB (fun _ => hb _ h0 h3)⟩

theorem IsB.lt {w : World} {a : Option Addr} {len cap : Nat} {zs : List Int} (h : IsB w a len cap zs) : ∀ p, a = some p → 0 < zs.length → p.block < w.heap.size := by
  obtain ⟨h1, h2, h3, h4, h5⟩ := h
  intro p hp hl
  obtain ⟨b, off, ha, hR⟩ := h5 (by omega)
  rw [ha] at hp
  cases hp
  exact hR.lt (by omega)

theorem keyR_key {α : Type} [Inhabited α] {q : List Int → Res α} {zs : List Int} {Y : Res (ByteArray × α)} (hY : Y = keyR q zs) {X : Res ByteArray} (hX : X = textR zs) (he : X.err ≠ 0) : Y = ⟨(ByteArray.empty, default), 0, X.err⟩ := by
  subst hX; rw [hY, keyR, if_neg he]
theorem keyR_part {α : Type} [Inhabited α] {q : List Int → Res α} {zs : List Int} {Y : Res (ByteArray × α)} (hY : Y = keyR q zs) {X : Res ByteArray} (hX : X = textR zs) (he : X.err = 0) {X2 : Res α} (hX2 : X2 = q (zs.drop X.done)) (he2 : X2.err ≠ 0) : Y = ⟨(ByteArray.empty, default), 0, X2.err⟩ := by
  subst hX; subst hX2; rw [hY, keyR, if_pos he, if_neg he2]
theorem keyR_both {α : Type} [Inhabited α] {q : List Int → Res α} {zs : List Int} {Y : Res (ByteArray × α)} (hY : Y = keyR q zs) {X : Res ByteArray} (hX : X = textR zs) (he : X.err = 0) {X2 : Res α} (hX2 : X2 = q (zs.drop X.done)) (he2 : X2.err = 0) : Y = ⟨(X.val, X2.val), X.done + X2.done, 0⟩ := by
  subst hX; subst hX2; rw [hY, keyR, if_pos he, if_pos he2]

set_option maxHeartbeats 1000000 in
theorem getKeyedP {w : World} {a : Option Addr} {len cap : Nat} {zs : List Int} (h : IsB w a len cap zs) (hsm : len ≤ 140737488351232) {Y : Res (ByteArray × ByteArray)} (hY : Y = keyR textR zs) :
    Calls Try.prog 74 #[.slice a len cap, .func (.func 75) #[] #[]] w fun e w' => ∃ r lr cr, e = .returned (.tuple #[.string Y.val.1, .string Y.val.2, .slice r lr cr, .int .i64 Y.err]) ∧ Hid (Behind w' a r lr cr zs Y.done Y.err) ∧ Below w.heap.size w w' := by
  have H : Hid _ := h
  have HY : Hid _ := hY
  have hzl : zs.length = len := h.1
  obtain ⟨X, hX⟩ : ∃ X, X = textR zs := ⟨_, rfl⟩
  obtain ⟨X2, hX2⟩ : ∃ X2, X2 = textR (zs.drop X.done) := ⟨_, rfl⟩
  have HX : Hid _ := hX
  have HX2 : Hid _ := hX2
  have HZ : Hid _ := hzl
  clear h hY hX hX2 hzl
  go_enter Try.func74, Try.ntmps74
  go_wp2_with fail
  refine (getText_r H.out hsm HX.out).mono ?_
  rintro e w1 ⟨r1, lr1, cr1, rfl, HB1, hB1⟩
  by_cases he : X.err = 0
  · obtain ⟨hd, hI, hl1⟩ := HB1.out.part he
    have HI : Hid (IsB _ _ _ _ _) := hI
    have HL1 : Hid (lr1 ≤ 140737488351232) := by
      show _ ≤ _
      rw [HZ.out] at hl1; omega
    clear hd hI hl1
    rw [he]
    go_wp2_with fail
    refine (getText_r HI.out HL1.out HX2.out).mono ?_
    rintro e w2 ⟨r2, lr2, cr2, rfl, HB2, hB2⟩
    by_cases he2 : X2.err = 0
    · have HJ : Hid (Behind w2 a r2 lr2 cr2 zs (X.done + X2.done) 0) := HB1.out.join he HB2.out he2
      rw [he2]
      go_wp2_with fail
      have HE := keyR_both HY.out HX.out he HX2.out he2
      exact bodyPost_ret (v := .tuple #[.string X.val, .string X2.val, .slice r2 lr2 cr2, .int .i64 0]) (by simp [results, Try.results74, go_sem]) rfl ⟨r2, lr2, cr2, by rw [HE], by rw [HE]; exact HJ, hB1.trans (hB2.mono hB1.size)⟩
    · have t : (X2.err == 0) = false := by simpa using he2
      have HE2 : Hid (X2.err ≠ 0) := he2
      clear he2
      go_wp2_with fail
      have HE := keyR_part HY.out HX.out he HX2.out HE2.out
      exact bodyPost_ret (v := .tuple #[.string ⟨#[]⟩, .string ⟨#[]⟩, .slice none 0 0, .int .i64 X2.err]) (by simp [results, Try.results74, go_sem]) rfl ⟨none, 0, 0, by rw [HE]; rfl, by rw [HE]; exact .inl ⟨HE2.out, rfl⟩, hB1.trans (hB2.mono hB1.size)⟩
  · have t : (X.err == 0) = false := by simpa using he
    have HE1 : Hid (X.err ≠ 0) := he
    clear he
    go_wp2_with fail
    have HE := keyR_key HY.out HX.out HE1.out
    exact bodyPost_ret (v := .tuple #[.string ⟨#[]⟩, .string ⟨#[]⟩, .slice none 0 0, .int .i64 X.err]) (by simp [results, Try.results74, go_sem]) rfl ⟨none, 0, 0, by rw [HE]; rfl, by rw [HE]; exact .inl ⟨HE1.out, rfl⟩, hB1⟩

set_option maxHeartbeats 1000000 in
theorem getItemP {w : World} {a : Option Addr} {len cap : Nat} {zs : List Int} (h : IsB w a len cap zs) (hsm : len ≤ 140737488351232) {Y : Res (ByteArray × ByteArray)} (hY : Y = keyR textR zs) :
    Calls Try.prog 73 #[.slice a len cap] w fun e w' => ∃ r lr cr, e = .returned (.tuple #[.agg #[.string Y.val.1, .string Y.val.2], .slice r lr cr, .int .i64 Y.err]) ∧ Hid (Behind w' a r lr cr zs Y.done Y.err) ∧ Below w.heap.size w w' := by
  have H : Hid (IsB _ _ _ _ _) := h
  have HY : Hid _ := hY
  clear h hY
  go_enter Try.func73, Try.ntmps73
  go_wp2_with fail
  refine (getKeyedP (H.out.old (below_one _ _)) hsm HY.out).mono ?_
  rintro e w1 ⟨r, lr, cr, rfl, HB, hB⟩
  obtain ⟨hc, hf⟩ := bcell hB
  have hs : w.heap.size < w1.heap.size := by have := hB.size; simp at this; omega
  go_wp2_with fail
  exact bodyPost_ret (v := .tuple #[.agg #[.string Y.val.1, .string Y.val.2], .slice r lr cr, .int .i64 Y.err]) (by simp [results, Try.results73, go_sem, hc, hs]) rfl
    ⟨r, lr, cr, rfl, HB.out.below (below_on _ _ _ _) H.out.lt, below_two hB _ _⟩
theorem no_block2 {H base : Nat} {v : Value} (s u : ByteArray) : ∀ j k, j < 2 → ([Value.string s, Value.string u].getD j default).ownBlock = some k → k < H ∧ v.ownBlock ≠ some k ∧ base ≤ k := by
  intro j k hj hk
  match j, hj with
  | 0, _ => simp [Value.ownBlock] at hk
  | 1, _ => simp [Value.ownBlock] at hk

set_option maxHeartbeats 1000000 in
theorem getP_yes {w : World} {b off len cap : Nat} {zs : List Int} (h : BRow w b off len cap zs) (hb : b < w.heap.size) (hsm : len ≤ 140737488351232) (hl : 2 ≤ len) {Y : Res (List (ByteArray × ByteArray))} (hY : Y = listR (keyR textR) zs) :
    Calls Try.prog 72 #[.slice (some ⟨b, off, none⟩) len cap, .func (.func 73) #[] #[]] w fun e w' => ∃ v r lr cr, e = .returned (.tuple #[v, .slice r lr cr, .int .i64 Y.err]) ∧
      Hid (Own 87 2 VP w' w.heap.size v Y.val) ∧ Hid (Behind w' (some ⟨b, off, none⟩) r lr cr zs Y.done Y.err) ∧ Below w.heap.size w w' := by
  have hz := h.len_eq
  obtain ⟨N, hN⟩ := Int.eq_ofNat_of_zero_le (numTo_bound zs h.rng 2 (by omega)).1
  have hN2 := (numTo_bound zs h.rng 2 (by omega)).2
  rw [hN] at hN2
  have hN3 : N < 65536 := by have h4 : (256 : Int) ^ 2 = 65536 := by decide
                             omega
  have HL : Hid (Y = goR (keyR textR) zs N 2 []) := by
    show _ = _
    rw [hY, listR, if_neg (by omega), hN, Int.toNat_natCast]
  have H : Hid (BRow w b off len cap zs) := h
  have HN : Hid (numTo zs 2 = N) := hN
  have HZ : Hid (zs.length = len) := hz
  clear h hN hN2 hz hY
  go_enter Try.func72, Try.ntmps72
  go_wp2_with fail
  refine (bget H.out 2 (by omega) (by omega) hl _ rfl).mono ?_
  rintro e w1 ⟨off1, rfl, hR1, hB1⟩
  rw [HN.out]
  have HR1 : Hid (BRow _ _ _ _ _ _) := hR1
  clear hR1
  go_wp2_with fail
  go_loopw [8, 10, 22] (fun r l i wr => ∃ k d off lr cr acc, k ≤ N ∧ i = .int .u64 k ∧ r = .slice (some ⟨b, off, none⟩) lr cr ∧ Hid (BRow wr b off lr cr (zs.drop d)) ∧ d ≤ len ∧ Hid (Own 87 2 VP wr w.heap.size l acc) ∧ acc.length = k ∧
      Hid (goR (keyR textR) zs (N - k) d acc = Y) ∧ Below w.heap.size w wr) (fun _ _ i _ => N - (intOf i).toNat)
  case atStart => exact ⟨0, 2, off1, _, _, [], by omega, rfl, rfl, HR1, hl, own_nil _ _ _ _ _, rfl, HL.out.symm, hB1⟩
  case round =>
    obtain ⟨k, d, off', lr, cr, acc, hk, rfl, rfl, HR, hd, HO, hacc, HG, hB⟩ := hrel
    by_cases hlt : k < N
    · have HLR : Hid (lr ≤ 140737488351232) := by
        show _ ≤ _
        rw [HR.out.len_le, List.length_drop, HZ.out]; omega
      obtain ⟨X, hX⟩ : ∃ X, X = keyR textR (zs.drop d) := ⟨_, rfl⟩
      have HX : Hid _ := hX
      clear hX
      have hbs := hB.size
      go_wp2_with fail
      refine (getItemP (HR.out.isB.old (below_one _ _)) HLR.out HX.out).mono ?_
      rintro e w2 ⟨r2, lr2, cr2, rfl, HB2, hB2⟩
      obtain ⟨hc, hf⟩ := bcell hB2
      have hs2 : wr.heap.size < w2.heap.size := by have := hB2.size; simp at this; omega
      by_cases he : X.err = 0
      · obtain ⟨hd2, off2, rfl, hR2⟩ := HB2.out.row he
        rw [List.drop_drop] at hR2
        rw [List.length_drop, HZ.out] at hd2
        have HG2 : Hid (goR (keyR textR) zs (N - (k + 1)) (d + X.done) (acc ++ [X.val]) = Y) := by
          have := goR_step HG.out hlt (by rw [← HX.out]; exact he)
          rw [← HX.out] at this
          exact this
        obtain ⟨w4, hw4⟩ : ∃ w4, w4 = (w2.setCell ⟨wr.heap.size, 0, none⟩ (.string X.val.1)).setCell ⟨wr.heap.size, 1, none⟩ (.string X.val.2) := ⟨_, rfl⟩
        have hB4 : Below wr.heap.size wr w4 := by rw [hw4]; exact below_two hB2 _ _
        have hs4 : w4.heap.size = w2.heap.size := by rw [hw4]; simp
        have HO2 : Hid (Own 87 2 VP (w4.alloc (.cells #[.string X.val.1, .string X.val.2] 87)) w.heap.size u10 acc) := HO.out.old stays_p (hB4.alloc hB4.size _)
        have HBN : Hid ((w4.alloc (.cells #[.string X.val.1, .string X.val.2] 87)).heap[w2.heap.size]? = some (.cells [Value.string X.val.1, Value.string X.val.2].toArray 87 (0, 0))) := by
          rw [← hs4]; exact heap_alloc_new w4 _
        have HB4 : Hid (Below wr.heap.size wr w4) := hB4
        have HS4 : Hid (w4.heap.size = w2.heap.size) := hs4
        have HR2 : Hid (BRow w4 b off2 lr2 cr2 (zs.drop (d + X.done))) := by rw [hw4]; exact hR2.below (below_on _ _ _ _) (fun _ => Nat.lt_of_lt_of_le hb hbs)
        clear hR2 hB4 hs4
        rw [hw4] at HO2 HBN
        rw [he]
        go_wp2_with (at_builtin; refine wpList_append_item rfl (.tmp 34) (.tmp 36) 22 rfl stays_p elem_p rfl HO2.out rfl HBN.out rfl ?c1 X.val ⟨rfl, rfl⟩ ?c2 ?c3 ?c4 ?c5 ?_)
        case c1 => intro u hu; simp at hu; rcases hu with rfl | rfl <;> rfl
        case c2 => exact no_block2 _ _
        case c3 => unfold maxLen; omega
        case c4 => omega
        case c5 => simp; omega
        intro v3 w3 ho3 hB3
        rw [← hw4] at hB3
        have HO3 : Hid (Own 87 2 VP w3 w.heap.size v3 (acc ++ [X.val])) := ho3
        have hs4 := HS4.out
        have hB03 : Below w.heap.size w w3 := ((hB.trans (HB4.out.mono hbs)).alloc (by omega) _).trans hB3
        have HR3 : Hid (BRow w3 b off2 lr2 cr2 (zs.drop (d + X.done))) := (HR2.out.old (below_one w4 _)).below hB3 (fun _ => hb)
        clear ho3 hs4
        go_wp2_with fail
        go_roundw
        case rel => exact ⟨k + 1, d + X.done, off2, lr2, cr2, acc ++ [X.val], by omega, by go_num, rfl, HR3, by omega, HO3, by simp [hacc], HG2, hB03⟩
        case measure => simp [intOf]; omega
      · have t : (X.err == 0) = false := by simpa using he
        have HE := goR_stop HG.out hlt (by rw [← HX.out]; exact he)
        go_wp2_with fail
        go_ret3
        exact ⟨.slice none 0 0, none, 0, 0, by rw [HE, ← HX.out]; rfl, by rw [HE]; exact own_nil _ _ _ _ _, by rw [HE, ← HX.out]; exact .inl ⟨he, rfl⟩, hB.trans ((below_two hB2 _ _).mono hB.size)⟩
    · have HE := goR_end HG.out (by omega)
      have hd' := HZ.out
      go_wp2_with fail
      go_ret3
      exact ⟨_, _, _, _, by rw [HE]; rfl, by rw [HE]; exact HO, by rw [HE]; exact .inr ⟨rfl, (show d ≤ zs.length by omega), by omega, b, off, off', rfl, rfl, Nat.lt_of_lt_of_le hb hB.size, HR.out⟩, hB⟩

theorem getP_short (a : Option Addr) (len cap : Nat) (w : World) (hl : len < 2) :
    Calls Try.prog 72 #[.slice a len cap, .func (.func 73) #[] #[]] w fun e w' => e = .returned (.tuple #[.slice none 0 0, .slice none 0 0, .int .i64 10]) ∧ Below w.heap.size w w' := by
  go_enter Try.func72, Try.ntmps72
  go_wp2_with fail
  refine (bget_short a len cap 2 _ (by omega) (by omega) hl _ rfl).mono ?_
  rintro e w1 ⟨rfl, rfl⟩
  go_wp2_with fail
  go_ret3
  exact ⟨rfl, Below.refl _ _⟩

theorem getP_any {w : World} {a : Option Addr} {len cap : Nat} {zs : List Int} (h : IsB w a len cap zs) (hsm : len ≤ 140737488351232) {Y : Res (List (ByteArray × ByteArray))} (hY : Y = listR (keyR textR) zs) :
    Calls Try.prog 72 #[.slice a len cap, .func (.func 73) #[] #[]] w fun e w' => ∃ v r lr cr, e = .returned (.tuple #[v, .slice r lr cr, .int .i64 Y.err]) ∧
      Hid (Own 87 2 VP w' w.heap.size v Y.val) ∧ Hid (Behind w' a r lr cr zs Y.done Y.err) ∧ Below w.heap.size w w' := by
  obtain ⟨h1, h2, h3, h4, h5⟩ := h
  by_cases hl : len < 2
  · rw [listR, if_pos (by omega)] at hY
    subst hY
    refine (getP_short a len cap w hl).mono ?_
    rintro e w' ⟨rfl, hB⟩
    exact ⟨_, _, _, _, rfl, own_nil _ _ _ _ _, .inl ⟨(by decide : (10 : Int) ≠ 0), rfl⟩, hB⟩
  · obtain ⟨b, off, rfl, hR⟩ := h5 (by omega)
    exact getP_yes hR (hR.lt (by omega)) hsm (by omega) hY

set_option maxHeartbeats 400000 in
theorem getPairs_any {w : World} {a : Option Addr} {len cap : Nat} {zs : List Int} (h : IsB w a len cap zs) (hsm : len ≤ 140737488351232) {Y : Res (List (ByteArray × ByteArray))} (hY : Y = listR (keyR textR) zs) :
    Calls Try.prog 37 #[.slice a len cap] w fun e w' => ∃ v r lr cr, e = .returned (.tuple #[v, .slice r lr cr, .int .i64 Y.err]) ∧
      Hid (Own 87 2 VP w' w.heap.size v Y.val) ∧ Hid (Behind w' a r lr cr zs Y.done Y.err) ∧ Below w.heap.size w w' := by
  have H : Hid _ := h
  have HY : Hid _ := hY
  clear h hY
  go_enter Try.func37, Try.ntmps37
  go_wp2_with fail
  refine (getP_any H.out hsm HY.out).mono ?_
  rintro e w1 ⟨v, r, lr, cr, rfl, HO, HB, hB⟩
  go_wp2_with fail
  go_ret3
  exact ⟨v, r, lr, cr, rfl, HO, HB, hB⟩
end Go.Proofs.Ytcecdklgiocbaaa

namespace Go.Proofs.Ytcecdklgiocbaaa
open Go.RowKit
set_option maxRecDepth 100000
set_option linter.unusedVariables false
set_option linter.unusedSimpArgs false

/-- The bytes, and the error. -/
def textB (s : ByteArray) : List Int × Int := if s.size ≤ 65535 then (putL s.size 2 ++ sNums s, 0) else ([], 12)
def valueB (x : Int × ByteArray) : List Int × Int :=
  if x.1 = 0 then ([255, 255, 255, 255], 0) else if x.1 = 1 then ([255, 255, 255, 254], 0) else if x.1 = 2 then (putL x.2.size 4 ++ sNums x.2, 0) else ([], 1)
def goB {α : Type} (f : α → List Int × Int) : List α → List Int → List Int × Int
  | [], acc => (acc, 0)
  | x :: r, acc => if (f x).2 = 0 then goB f r (acc ++ (f x).1) else ([], (f x).2)
def listB {α : Type} (f : α → List Int × Int) (xs : List α) : List Int × Int := if xs.length ≤ 65535 then goB f xs (putL xs.length 2) else ([], 12)
def keyB {α : Type} (g : α → List Int × Int) (x : ByteArray × α) : List Int × Int :=
  if (textB x.1).2 = 0 then if (g x.2).2 = 0 then ((textB x.1).1 ++ (g x.2).1, 0) else ([], (g x.2).2) else ([], (textB x.1).2)

/-- A slice that owns the bytes X, and as it is read. -/
def Put (w : World) (base : Nat) (a : Option Addr) (cp : Nat) (X : List Int) : Prop := OwnB w base (.slice a X.length cp) X.length X ∧ IsB w a X.length cp X

theorem put_nil (w : World) (base : Nat) : Put w base none 0 [] := ⟨World.ownsRow_nil _ _ _ _, isB_nil _⟩

theorem OwnB.put {w : World} {base : Nat} {v : Value} {n : Nat} {X : List Int} (h : OwnB w base v n X) (hr : ∀ j : Nat, 0 ≤ X[j]?.getD 0 ∧ X[j]?.getD 0 ≤ 255) : ∃ a cp, v = .slice a X.length cp ∧ Put w base a cp X := by
  have hl := h.len
  subst hl
  rcases h.2 with ⟨rfl, h0⟩ | ⟨g, cap, cur, rfl, hg, hh, hnc, hm, hs, htake⟩
  · obtain rfl : X = [] := List.eq_nil_of_length_eq_zero h0
    exact ⟨none, 0, rfl, put_nil _ _⟩
  · refine ⟨_, cap, rfl, h, rfl, hnc, hm, (fun e => by cases e), fun hp => ?_⟩
    obtain ⟨g', cap', hv, _, _, hR⟩ := h.row hp hr
    cases hv
    exact ⟨g, 0, rfl, hR⟩

theorem OwnB.old {w W : World} {base : Nat} {v : Value} {n : Nat} {X : List Int} (h : OwnB w base v n X) (hB : Below w.heap.size w W) : OwnB W base v n X := by
  refine ⟨h.1, ?_⟩
  rcases h.2 with h2 | ⟨g, cap, cur, hv, hg, hh, r⟩
  · exact .inl h2
  · exact .inr ⟨g, cap, cur, hv, hg, by rw [hB.block g (Array.getElem?_eq_some_iff.1 hh).1]; exact hh, r⟩

theorem Put.old {w W : World} {base : Nat} {a : Option Addr} {cp : Nat} {X : List Int} (h : Put w base a cp X) (hB : Below w.heap.size w W) : Put W base a cp X := ⟨h.1.old hB, h.2.old hB⟩
theorem Put.mono {w : World} {base base' : Nat} {a : Option Addr} {cp : Nat} {X : List Int} (h : Put w base a cp X) (hb : base' ≤ base) : Put w base' a cp X := ⟨h.1.mono hb, h.2⟩

theorem textB_range (s : ByteArray) : ∀ j : Nat, 0 ≤ (textB s).1[j]?.getD 0 ∧ (textB s).1[j]?.getD 0 ≤ 255 := by
  unfold textB
  split
  · exact range_append (putL_range _ _) (sNums_range s)
  · intro j; simp

theorem textB_len (s : ByteArray) : (textB s).1.length ≤ 65537 := by
  unfold textB
  split
  · rw [List.length_append, putL_length, sNums_length]; omega
  · simp

set_option maxHeartbeats 400000 in
theorem text_long (s : ByteArray) (w : World) (hs : 65535 < s.size) (hm : s.size ≤ maxLen) :
    Calls Try.prog 57 #[.string s] w fun e w' => e = .returned (.tuple #[.slice none 0 0, .int .i64 12]) ∧ w' = w := by
  unfold maxLen at hm
  go_enter Try.func57, Try.ntmps57
  go_wp2_with fail
  go_ret2
  exact ⟨rfl, rfl⟩

theorem text_any (s : ByteArray) (w : World) (hm : s.size ≤ maxLen) {B : List Int × Int} (hB : B = textB s) :
    Calls Try.prog 57 #[.string s] w fun e w' => ∃ a cp, e = .returned (.tuple #[.slice a B.1.length cp, .int .i64 B.2]) ∧ Hid (Put w' w.heap.size a cp B.1) ∧ Below w.heap.size w w' := by
  subst hB
  by_cases hs : s.size ≤ 65535
  · refine (text_yes s w hs).mono ?_
    rintro e w' ⟨v, rfl, ho, hB⟩
    obtain ⟨a, cp, rfl, hp⟩ := ho.put (range_append (putL_range _ _) (sNums_range s))
    simp only [textB, if_pos hs]
    exact ⟨a, cp, rfl, hp, hB⟩
  · refine (text_long s w (by omega) hm).mono ?_
    rintro e w' ⟨rfl, rfl⟩
    simp only [textB, if_neg hs]
    exact ⟨none, 0, rfl, put_nil _ _, Below.refl _ _⟩

set_option maxHeartbeats 400000 in
theorem putItemS (s : ByteArray) (w : World) (hm : s.size ≤ maxLen) {B : List Int × Int} (hB : B = textB s) :
    Calls Try.prog 65 #[.string s] w fun e w' => ∃ a cp, e = .returned (.tuple #[.slice a B.1.length cp, .int .i64 B.2]) ∧ Hid (Put w' w.heap.size a cp B.1) ∧ Below w.heap.size w w' := by
  have HB : Hid _ := hB
  have HM : Hid _ := hm
  clear hB hm
  go_enter Try.func65, Try.ntmps65
  go_wp2_with fail
  refine (text_any s _ HM.out HB.out).mono ?_
  rintro e w1 ⟨a, cp, rfl, HP, hB⟩
  go_wp2_with fail
  go_ret2
  exact ⟨a, cp, rfl, HP, hB⟩

/-- A cell of a list of texts. -/
theorem View.str {w : World} {a : Option Addr} {len cap : Nat} {ss : List ByteArray} (h : View 1 VS w a len cap ss) {k : Nat} (hk : k < len) : ∃ b off, a = some ⟨b, off, none⟩ ∧ w.cell? ⟨b, off + k, none⟩ = some (.string (ss.getD k default)) := by
  obtain ⟨h1, h2, h3, h4, h5⟩ := h
  obtain ⟨b, off, ha, hb, hc⟩ := h5 (by omega)
  obtain ⟨c, hcell, hv⟩ := hc k hk
  have := hcell 0 (by omega)
  rw [hv] at this
  exact ⟨b, off, ha, by simpa using this⟩

theorem goB_step {α : Type} [Inhabited α] {f : α → List Int × Int} {xs : List α} {k : Nat} {acc : List Int} {Y : List Int × Int} (h : goB f (xs.drop k) acc = Y) (hk : k < xs.length) (he : (f (xs.getD k default)).2 = 0) :
    goB f (xs.drop (k + 1)) (acc ++ (f (xs.getD k default)).1) = Y := by
  rw [List.getD_eq_getElem?_getD, List.getElem?_eq_getElem hk, Option.getD_some] at *
  rw [List.drop_eq_getElem_cons hk, goB, if_pos he] at h
  exact h
theorem goB_stop {α : Type} [Inhabited α] {f : α → List Int × Int} {xs : List α} {k : Nat} {acc : List Int} {Y : List Int × Int} (h : goB f (xs.drop k) acc = Y) (hk : k < xs.length) (he : (f (xs.getD k default)).2 ≠ 0) : Y = ([], (f (xs.getD k default)).2) := by
  rw [List.getD_eq_getElem?_getD, List.getElem?_eq_getElem hk, Option.getD_some] at *
  rw [List.drop_eq_getElem_cons hk, goB, if_neg he] at h
  exact h.symm
theorem goB_end {α : Type} {f : α → List Int × Int} {xs : List α} {k : Nat} {acc : List Int} {Y : List Int × Int} (h : goB f (xs.drop k) acc = Y) (hk : xs.length ≤ k) : Y = (acc, 0) := by
  rw [List.drop_eq_nil_of_le hk, goB] at h
  exact h.symm

set_option maxHeartbeats 1000000 in
theorem putS_yes {w : World} {a : Option Addr} {len cap : Nat} {xs : List ByteArray} (h : View 1 VS w a len cap xs) (hl : len ≤ 65535) (hx : ∀ x ∈ xs, x.size ≤ maxLen) {Y : List Int × Int} (hY : Y = listB textB xs) :
    Calls Try.prog 64 #[.slice a len cap, .func (.func 65) #[] #[]] w fun e w' => ∃ a cp, e = .returned (.tuple #[.slice a Y.1.length cp, .int .i64 Y.2]) ∧ Hid (Put w' w.heap.size a cp Y.1) ∧ Below w.heap.size w w' := by
  have hlx : xs.length = len := h.1
  have HY : Hid (Y = goB textB xs (putL len 2)) := by
    show _ = _
    rw [hY, listB, if_pos (by omega), hlx]
  have H : Hid (View 1 VS w a len cap xs) := h
  have HX : Hid _ := hx
  have HLX : Hid (xs.length = len) := hlx
  have hd : decide ((65535 : Int) < len) = false := by simp; omega
  clear h hx hlx hY
  go_enter Try.func64, Try.ntmps64
  go_wp2_with fail
  refine (put_own len 2 _ (by omega) (by omega) (by omega) _ rfl).mono ?_
  rintro e w1 ⟨v, rfl, ho, hB1⟩
  have HO1 : Hid (OwnB w1 w.heap.size v (putL len 2).length (putL len 2)) := by
    show OwnB _ _ _ _ _
    rw [putL_length]; exact ho
  have HR1 : Hid _ := putL_range (len : Int) 2
  clear ho
  go_wp2_with fail
  go_loopw [6, 20] (fun v i wr => ∃ (k : Nat) (acc : List Int), k ≤ len ∧ i = .int .i64 k ∧ Hid (OwnB wr w.heap.size v acc.length acc) ∧ Hid (goB textB (xs.drop k) acc = Y) ∧ acc.length ≤ 2 + k * 65537 ∧
      Hid (∀ j : Nat, 0 ≤ acc[j]?.getD 0 ∧ acc[j]?.getD 0 ≤ 255) ∧ Below w.heap.size w wr) (fun _ i _ => len - (intOf i).toNat)
  case atStart => exact ⟨0, _, by omega, rfl, HO1, HY.out.symm, by rw [putL_length]; omega, HR1, hB1⟩
  case round =>
    obtain ⟨k, acc, hk, rfl, HO, HG, hacc, HR, hB⟩ := hrel
    by_cases hlt : k < len
    · obtain ⟨b, off, rfl, hc⟩ := (H.out.old stays_s hB).str hlt
      obtain ⟨s, hs⟩ : ∃ s, s = xs.getD k default := ⟨_, rfl⟩
      rw [← hs] at hc
      obtain ⟨B, hBt⟩ : ∃ B, B = textB s := ⟨_, rfl⟩
      have HS : Hid _ := hs
      have HBt : Hid _ := hBt
      have HSM : Hid (s.size ≤ maxLen) := by
        show _ ≤ _
        rw [hs, List.getD_eq_getElem?_getD, List.getElem?_eq_getElem (by rw [HLX.out]; exact hlt)]
        exact HX.out _ (List.getElem_mem _)
      clear hs hBt
      go_wp2_with fail
      refine (putItemS s _ HSM.out HBt.out).mono ?_
      rintro e w2 ⟨a2, cp2, rfl, HP2, hB2⟩
      have hbl : B.1.length ≤ 65537 := by rw [HBt.out]; exact textB_len s
      by_cases he : B.2 = 0
      · have HG2 : Hid (goB textB (xs.drop (k + 1)) (acc ++ B.1) = Y) := by
          rw [HBt.out, HS.out]
          exact goB_step HG.out (by rw [HLX.out]; exact hlt) (by rw [← HS.out, ← HBt.out]; exact he)
        have HO2 : Hid (OwnB w2 w.heap.size u6 acc.length acc) := HO.out.old hB2
        have hbs := hB.size
        have hbs2 := hB2.size
        have HBD : Hid (acc.length + B.1.length ≤ 140737488355328) := by
          show _ ≤ _
          have : k * 65537 ≤ 65535 * 65537 := Nat.mul_le_mul_right _ (by omega)
          omega
        rw [he]
        go_wp2_with (at_builtin; refine wpList_append_bytes rfl (.tmp 33) (.tmp 34) rfl rfl HO2.out rfl HP2.out.2 HBD.out (by omega) ?_)
        intro v3 w3 ho3 hB3
        have HO3 : Hid (OwnB w3 w.heap.size v3 (acc ++ B.1).length (acc ++ B.1)) := by
          show OwnB _ _ _ _ _
          rw [List.length_append]; exact ho3
        have HR3 : Hid (∀ j : Nat, 0 ≤ (acc ++ B.1)[j]?.getD 0 ∧ (acc ++ B.1)[j]?.getD 0 ≤ 255) := range_append HR.out HP2.out.2.range
        have hB03 : Below w.heap.size w w3 := (hB.trans (hB2.mono hbs)).trans hB3
        clear ho3
        go_wp2_with fail
        go_roundw
        case rel => exact ⟨k + 1, acc ++ B.1, by omega, by go_num, HO3, HG2, by rw [List.length_append, Nat.succ_mul]; omega, HR3, hB03⟩
        case measure => simp [intOf]; omega
      · have t : (B.2 == 0) = false := by simpa using he
        have HE := goB_stop HG.out (by rw [HLX.out]; exact hlt) (by rw [← HS.out, ← HBt.out]; exact he)
        rw [← HS.out, ← HBt.out] at HE
        clear he
        go_wp2_with fail
        go_ret2
        exact ⟨none, 0, by rw [HE]; rfl, by rw [HE]; exact put_nil _ _, hB.trans (hB2.mono hB.size)⟩
    · have HE := goB_end HG.out (by rw [HLX.out]; omega)
      obtain ⟨a2, cp2, hv, hp⟩ := OwnB.put HO.out HR.out
      subst hv
      go_wp2_with fail
      go_ret2
      exact ⟨a2, cp2, by rw [HE]; rfl, by rw [HE]; exact hp, hB⟩

set_option maxHeartbeats 400000 in
theorem putS_long (a : Option Addr) (len cap : Nat) (w : World) (hl : 65535 < len) (hm : len ≤ maxLen) :
    Calls Try.prog 64 #[.slice a len cap, .func (.func 65) #[] #[]] w fun e w' => e = .returned (.tuple #[.slice none 0 0, .int .i64 12]) ∧ w' = w := by
  unfold maxLen at hm
  go_enter Try.func64, Try.ntmps64
  go_wp2_with fail
  go_ret2
  exact ⟨rfl, rfl⟩

theorem putS_any {w : World} {a : Option Addr} {len cap : Nat} {xs : List ByteArray} (h : View 1 VS w a len cap xs) (hx : ∀ x ∈ xs, x.size ≤ maxLen) {Y : List Int × Int} (hY : Y = listB textB xs) :
    Calls Try.prog 64 #[.slice a len cap, .func (.func 65) #[] #[]] w fun e w' => ∃ a cp, e = .returned (.tuple #[.slice a Y.1.length cp, .int .i64 Y.2]) ∧ Hid (Put w' w.heap.size a cp Y.1) ∧ Below w.heap.size w w' := by
  by_cases hl : len ≤ 65535
  · exact putS_yes h hl hx hY
  · refine (putS_long a len cap w (by omega) (Nat.le_trans h.2.1 h.2.2.1)).mono ?_
    rintro e w' ⟨rfl, rfl⟩
    rw [listB, if_neg (by rw [h.1]; exact hl)] at hY
    subst hY
    exact ⟨none, 0, rfl, put_nil _ _, Below.refl _ _⟩

set_option maxHeartbeats 400000 in
theorem texts_any {w : World} {a : Option Addr} {len cap : Nat} {xs : List ByteArray} (h : View 1 VS w a len cap xs) (hx : ∀ x ∈ xs, x.size ≤ maxLen) {Y : List Int × Int} (hY : Y = listB textB xs) :
    Calls Try.prog 21 #[.slice a len cap] w fun e w' => ∃ a cp, e = .returned (.tuple #[.slice a Y.1.length cp, .int .i64 Y.2]) ∧ Hid (Put w' w.heap.size a cp Y.1) ∧ Below w.heap.size w w' := by
  have H : Hid (View _ _ _ _ _ _ _) := h
  have HX : Hid _ := hx
  have HY : Hid _ := hY
  clear h hx hY
  go_enter Try.func21, Try.ntmps21
  go_wp2_with fail
  refine (putS_any H.out HX.out HY.out).mono ?_
  rintro e w1 ⟨a1, cp1, rfl, HP, hB⟩
  go_wp2_with fail
  go_ret2
  exact ⟨a1, cp1, rfl, HP, hB⟩
end Go.Proofs.Ytcecdklgiocbaaa
