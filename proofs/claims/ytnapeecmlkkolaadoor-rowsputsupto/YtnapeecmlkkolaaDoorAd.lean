/-
  Vals, Keep, OwnI, RdM, BackMath, laid together.
-/
import Derived.Test.YtnapeecmlkkolaaDoorAc
import Derived.Deep.RegionHeld3
import Derived.Laws.EntriesVeiled
import Derived.Deep.AppendLies
import Derived.ArgAppend
namespace Go.Proofs.YtnapeecmlkkolaaDoor
open Go.RowKit
set_option maxRecDepth 100000
set_option linter.unusedVariables false
set_option linter.unusedSimpArgs false

set_option maxHeartbeats 400000 in
theorem signed_yes (x : Int) (n : Nat) (w : World) (h1 : 1 ≤ n) (h2 : n ≤ 8) :
    Calls Tryd.prog 74 #[.int .u64 x, .int .i64 n] w fun e w' => e = .returned (.int .i64 (sgn x n)) ∧ w' = w := by
  have hb := fitsB_yes h1 h2
  have HE : Hid _ := signed_eq x n h1 h2
  go_enter Tryd.func74, Tryd.ntmps74
  go_wp2_with (go_at_call 86; refine (fits_any _ _).mono ?_; rintro e w' ⟨rfl, rfl⟩)
  go_ret
  rw [← HE.out]
  exact ⟨rfl, rfl⟩

set_option maxHeartbeats 400000 in
theorem signed_no (x n : Int) (w : World) (h : n < 1 ∨ 8 < n) :
    Calls Tryd.prog 74 #[.int .u64 x, .int .i64 n] w fun e w' => e = .returned (.int .i64 0) ∧ w' = w := by
  have hb := fitsB_no h
  clear h
  go_enter Tryd.func74, Tryd.ntmps74
  go_wp2_with (go_at_call 86; refine (fits_any _ _).mono ?_; rintro e w' ⟨rfl, rfl⟩)
  go_ret
  exact ⟨rfl, rfl⟩

/-- An int with its sign, of four bytes. -/
def int4 (zs : List Int) : Int := sgn (numTo zs 4) 4

theorem int4_bounds (zs : List Int) : -2147483648 ≤ int4 zs ∧ int4 zs ≤ 2147483647 := by
  unfold int4 sgn
  generalize numTo zs 4 = x
  simp only [show 8 * 4 - 1 = 31 from rfl, show 8 * 4 = 32 from rfl]
  split <;> omega

theorem sgn0 : sgn 0 4 = 0 := by decide

set_option maxHeartbeats 400000 in
/-- getInt, too few bytes. -/
theorem getInt_short (a : Option Addr) (len cap : Nat) (w : World) (hl : len < 4) :
    Calls Tryd.prog 67 #[.slice a len cap] w fun e w' => e = .returned (.tuple #[.int .i64 0, .slice none 0 0, .int .i64 10]) ∧ w' = w := by
  go_enter Tryd.func67, Tryd.ntmps67
  go_wp2_with fail
  refine (bget_short a len cap 4 _ (by omega) (by omega) hl _ rfl).mono ?_
  rintro e w1 ⟨rfl, rfl⟩
  go_wp2_with fail
  refine (signed_yes 0 4 _ (by omega) (by omega)).mono ?_
  rintro e w2 ⟨rfl, rfl⟩
  rw [sgn0]
  go_wp2_with fail
  go_ret3
  exact ⟨rfl, rfl⟩

set_option maxHeartbeats 400000 in
theorem getInt_yes {w : World} {b off len cap : Nat} {zs : List Int} (h : BRow w b off len cap zs) (hl : 4 ≤ len) :
    Calls Tryd.prog 67 #[.slice (some ⟨b, off, none⟩) len cap] w fun e w' => ∃ off', e = .returned (.tuple #[.int .i64 (int4 zs), .slice (some ⟨b, off', none⟩) (len - 4) (cap - 4), .int .i64 0]) ∧
      BRow w' b off' (len - 4) (cap - 4) (zs.drop 4) ∧ Below w.heap.size w w' := by
  have H : Hid _ := h
  clear h
  go_enter Tryd.func67, Tryd.ntmps67
  go_wp2_with fail
  refine (bget H.out 4 (by omega) (by omega) hl _ rfl).mono ?_
  rintro e w1 ⟨off', rfl, hR, hB⟩
  go_wp2_with fail
  refine (signed_yes _ 4 _ (by omega) (by omega)).mono ?_
  rintro e w2 ⟨rfl, rfl⟩
  have HE : Hid (sgn (numTo zs 4) 4 = int4 zs) := rfl
  generalize sgn (numTo zs 4) 4 = z at *
  go_wp2_with fail
  go_ret3
  rw [← HE.out]
  exact ⟨off', rfl, hR, hB⟩

set_option maxHeartbeats 400000 in
theorem putInt_any (x : Int) (w : World) :
    Calls Tryd.prog 81 #[.int .i64 x] w fun e w' => ∃ v, e = .returned v ∧ OwnB w' w.heap.size v 4 (putL (IntKind.u64.wrap x) 4) ∧ Below w.heap.size w w' := by
  go_enter Tryd.func81, Tryd.ntmps81
  go_wp2_with fail
  refine (put_own (IntKind.u64.wrap x) 4 _ (by omega) (by omega) (by rw [IntKind.wrap_u64]; omega) _ rfl).mono ?_
  rintro e w1 ⟨v, rfl, ho, hB⟩
  have HO : Hid _ := ho
  clear ho
  go_wp2_with fail
  go_ret
  exact ⟨v, rfl, HO.out, hB⟩

set_option maxHeartbeats 400000 in
theorem rlong_yes (s : ByteArray) (w : World) (hs : s.size ≤ 140737488351232) :
    Calls Tryd.prog 64 #[.string s] w fun e w' => ∃ v, e = .returned v ∧ OwnB w' w.heap.size v (4 + s.size) (putL s.size 4 ++ sNums s) ∧ Below w.heap.size w w' := by
  obtain ⟨i0, hi, hz0, hz1, hz2⟩ := info_parts Tryd.info5
  have HI : Hid (Tryd.prog.info? 5 = some i0 ∧ i0.zero = some (.int .u8 0) ∧ i0.size = 1 ∧ i0.bytes = 1) := ⟨hi, hz0, hz1, hz2⟩
  clear hi hz0 hz1 hz2
  go_enter Tryd.func64, Tryd.ntmps64
  go_wp2_with fail
  refine (rput_own s.size 4 _ (by omega) (by omega) (by omega) (by omega) _ rfl).mono ?_
  rintro e w1 ⟨v, rfl, ho, hB⟩
  have HO : Hid _ := ho
  clear ho
  go_wp2_with (at_builtin; refine Lib.wpList_append_own_string _ rfl (.tmp 8) (.tmp 9) 22 9 rfl w.heap.size 5 i0 Tryd.underlying22 Tryd.underlying9 HI.out.1 HI.out.2.1 HI.out.2.2.1 HI.out.2.2.2 _ _ _ rfl HO.out s rfl ?c1 ?c2 ?c3 ?_)
  case c1 => unfold maxLen; omega
  case c2 => omega
  case c3 => exact hB.size
  intro v2 w2 ho2 hg _
  have HO2 : Hid _ := OwnB.join ho2 (sNums_cells s)
  have hB2 : Below w.heap.size w w2 := hB.grown hg hB.size (OwnB.block HO.out)
  clear ho2 hg
  go_wp2_with fail
  go_ret
  exact ⟨v2, rfl, HO2.out, hB2⟩

theorem BRow.set {w : World} {b off len cap : Nat} {zs : List Int} (h : BRow w b off len cap zs) {g k : Nat} (hg : g ≠ b) (v : Value) : BRow (w.setCell ⟨g, k, none⟩ v) b off len cap zs :=
  ⟨h.len_eq, h.le, h.cap_le, fun hl => by simpa using h.lt hl, fun i hi => (World.cell?_setCell_other (w := w) (a := ⟨g, k, none⟩) (b := ⟨b, off + i, none⟩) (v := v) (by intro e; cases e; exact hg rfl)).trans (h.cell i hi), h.rng⟩

theorem below_alloc2 {w w1 : World} {o : Obj} (hB : Below (w.alloc o).heap.size (w.alloc o) w1) (u v : Value) : Below w.heap.size w ((w1.setCell ⟨w.heap.size, 0, none⟩ u).setCell ⟨w.heap.size, 1, none⟩ v) :=
  (((below_one w o).trans (hB.mono (by simp))).setCell (Nat.le_refl _) _).setCell (Nat.le_refl _) _

theorem below_on (w1 : World) (s : Nat) (u v : Value) : Below s w1 ((w1.setCell ⟨s, 0, none⟩ u).setCell ⟨s, 1, none⟩ v) :=
  ((Below.refl s w1).setCell (p := ⟨s, 0, none⟩) (Nat.le_refl _) u).setCell (p := ⟨s, 1, none⟩) (Nat.le_refl _) v

set_option maxHeartbeats 400000 in
theorem getValue_short0 (a : Option Addr) (len cap : Nat) (w : World) (hl : len < 4) :
    Calls Tryd.prog 44 #[.slice a len cap] w fun e w' => e = .returned (.tuple #[.agg #[.int .i64 0, .slice none 0 0], .slice none 0 0, .int .i64 10]) ∧ Below w.heap.size w w' := by
  go_enter Tryd.func44, Tryd.ntmps44
  go_wp2_with fail
  refine (getInt_short a len cap _ hl).mono ?_
  rintro e w1 ⟨rfl, rfl⟩
  go_wp2_with fail
  exact bodyPost_ret (v := .tuple #[.agg #[.int .i64 0, .slice none 0 0], .slice none 0 0, .int .i64 10]) (by simp [results, Tryd.results44, go_sem]) rfl ⟨rfl, below_one _ _⟩

set_option maxHeartbeats 400000 in
theorem getValue_form {w : World} {b off len cap : Nat} {zs : List Int} (h : BRow w b off len cap zs) (hl : 4 ≤ len) (hn : int4 zs < -2) :
    Calls Tryd.prog 44 #[.slice (some ⟨b, off, none⟩) len cap] w fun e w' => e = .returned (.tuple #[.agg #[.int .i64 0, .slice none 0 0], .slice none 0 0, .int .i64 11]) ∧ Below w.heap.size w w' := by
  have H : Hid _ := h
  clear h
  go_enter Tryd.func44, Tryd.ntmps44
  go_wp2_with fail
  refine (getInt_yes (H.out.old (below_one _ _)) hl).mono ?_
  rintro e w1 ⟨off', rfl, hR, hB⟩
  obtain ⟨hc, hf⟩ := bcell hB
  have hs : w.heap.size < w1.heap.size := by have := hB.size; simp at this; omega
  go_wp2_with fail
  exact bodyPost_ret (v := .tuple #[.agg #[.int .i64 0, .slice none 0 0], .slice none 0 0, .int .i64 11]) (by simp [results, Tryd.results44, go_sem, hc, hs]) rfl ⟨rfl, below_alloc2 hB _ _⟩

set_option maxHeartbeats 400000 in
theorem getValue_unset {w : World} {b off len cap : Nat} {zs : List Int} (h : BRow w b off len cap zs) (hl : 4 ≤ len) (hn : int4 zs = -2) :
    Calls Tryd.prog 44 #[.slice (some ⟨b, off, none⟩) len cap] w fun e w' => ∃ off', e = .returned (.tuple #[.agg #[.int .i64 1, .slice none 0 0], .slice (some ⟨b, off', none⟩) (len - 4) (cap - 4), .int .i64 0]) ∧
      BRow w' b off' (len - 4) (cap - 4) (zs.drop 4) ∧ Below w.heap.size w w' := by
  have H : Hid _ := h
  clear h
  go_enter Tryd.func44, Tryd.ntmps44
  go_wp2_with fail
  refine (getInt_yes (H.out.old (below_one _ _)) hl).mono ?_
  rintro e w1 ⟨off', rfl, hR, hB⟩
  obtain ⟨hc, hf⟩ := bcell hB
  have hs : w.heap.size < w1.heap.size := by have := hB.size; simp at this; omega
  rw [hn]
  clear hn
  go_wp2_with fail
  exact bodyPost_ret (v := .tuple #[.agg #[.int .i64 1, .slice none 0 0], .slice (some ⟨b, off', none⟩) (len - 4) (cap - 4), .int .i64 0]) (by simp [results, Tryd.results44, go_sem, hc, hs]) rfl
    ⟨off', rfl, hR.below (below_on _ _ _ _) (fun _ => H.out.lt (by omega)), below_alloc2 hB _ _⟩

set_option maxHeartbeats 400000 in
theorem getValue_null {w : World} {b off len cap : Nat} {zs : List Int} (h : BRow w b off len cap zs) (hl : 4 ≤ len) (hn : int4 zs = -1) :
    Calls Tryd.prog 44 #[.slice (some ⟨b, off, none⟩) len cap] w fun e w' => ∃ off', e = .returned (.tuple #[.agg #[.int .i64 0, .slice none 0 0], .slice (some ⟨b, off', none⟩) (len - 4) (cap - 4), .int .i64 0]) ∧
      BRow w' b off' (len - 4) (cap - 4) (zs.drop 4) ∧ Below w.heap.size w w' := by
  have H : Hid _ := h
  clear h
  go_enter Tryd.func44, Tryd.ntmps44
  go_wp2_with fail
  refine (getInt_yes (H.out.old (below_one _ _)) hl).mono ?_
  rintro e w1 ⟨off', rfl, hR, hB⟩
  obtain ⟨hc, hf⟩ := bcell hB
  have hs : w.heap.size < w1.heap.size := by have := hB.size; simp at this; omega
  rw [hn]
  clear hn
  go_wp2_with fail
  exact bodyPost_ret (v := .tuple #[.agg #[.int .i64 0, .slice none 0 0], .slice (some ⟨b, off', none⟩) (len - 4) (cap - 4), .int .i64 0]) (by simp [results, Tryd.results44, go_sem, hc, hs]) rfl
    ⟨off', rfl, hR.below (below_on _ _ _ _) (fun _ => H.out.lt (by omega)), below_alloc2 hB _ _⟩

theorem int4_tests {zs : List Int} (h : 0 ≤ int4 zs) : decide (int4 zs < -2) = false ∧ (int4 zs == -2) = false ∧ (int4 zs == -1) = false := by
  refine ⟨by simp; omega, by simp; omega, by simp; omega⟩

set_option maxHeartbeats 400000 in
theorem getValue_short {w : World} {b off len cap : Nat} {zs : List Int} (h : BRow w b off len cap zs) (hl : 4 ≤ len) (hn : ((len - 4 : Nat) : Int) < int4 zs) :
    Calls Tryd.prog 44 #[.slice (some ⟨b, off, none⟩) len cap] w fun e w' => e = .returned (.tuple #[.agg #[.int .i64 0, .slice none 0 0], .slice none 0 0, .int .i64 10]) ∧ Below w.heap.size w w' := by
  have H : Hid _ := h
  have hlm : len ≤ maxLen := Nat.le_trans h.le h.cap_le
  have HN : Hid _ := hn
  have HLM : Hid (len - 4 ≤ maxLen) := (by omega : len - 4 ≤ maxLen)
  have h0 : 0 ≤ int4 zs := by omega
  have hbd := (int4_bounds zs).2
  obtain ⟨ht1, ht2, ht3⟩ := int4_tests h0
  clear h hn hlm
  go_enter Tryd.func44, Tryd.ntmps44
  go_wp2_with fail
  refine (getInt_yes (H.out.old (below_one _ _)) hl).mono ?_
  rintro e w1 ⟨off', rfl, hR, hB⟩
  obtain ⟨hc, hf⟩ := bcell hB
  have hs : w.heap.size < w1.heap.size := by have := hB.size; simp at this; omega
  have HR : Hid _ := hR
  clear hR
  go_wp2_with fail
  refine (btake_short _ _ _ _ _ HLM.out HN.out).mono ?_
  rintro e w2 ⟨rfl, rfl⟩
  go_wp2_with fail
  exact bodyPost_ret (v := .tuple #[.agg #[.int .i64 0, .slice none 0 0], .slice none 0 0, .int .i64 10]) (by simp [results, Tryd.results44, go_sem, hc, hs]) rfl ⟨rfl, below_alloc2 hB _ _⟩

set_option maxHeartbeats 400000 in
theorem getValue_set {w : World} {b off len cap : Nat} {zs : List Int} (h : BRow w b off len cap zs) (hsm : len ≤ 140737488351232) (n : Nat) (hl : 4 + n ≤ len) (hn : int4 zs = n) :
    Calls Tryd.prog 44 #[.slice (some ⟨b, off, none⟩) len cap] w fun e w' => ∃ off' g, w.heap.size ≤ g ∧ g < w'.heap.size ∧ e = .returned (.tuple #[.agg #[.int .i64 2, .slice (some ⟨g, 0, none⟩) n n], .slice (some ⟨b, off', none⟩) (len - 4 - n) (cap - 4 - n), .int .i64 0]) ∧
      BRow w' g 0 n n ((zs.drop 4).take n) ∧ BRow w' b off' (len - 4 - n) (cap - 4 - n) (zs.drop (4 + n)) ∧ Below w.heap.size w w' := by
  have H : Hid _ := h
  have HN : Hid _ := hn
  have h0 : 0 ≤ int4 zs := by omega
  have hbd := (int4_bounds zs).2
  obtain ⟨ht1, ht2, ht3⟩ := int4_tests h0
  clear h hn
  go_enter Tryd.func44, Tryd.ntmps44
  go_wp2_with fail
  refine (getInt_yes (H.out.old (below_one _ _)) (by omega)).mono ?_
  rintro e w1 ⟨off', rfl, hR, hB⟩
  have hs : w.heap.size < w1.heap.size := by have := hB.size; simp at this; omega
  have HR : Hid _ := hR
  clear hR
  go_wp2_with fail
  refine (btake HR.out n (by omega) (by omega) _ HN.out).mono ?_
  rintro e w2 ⟨off2, rfl, hX, hR2, hB2, hs3⟩
  have hB3 := hB.trans (hB2.mono hB.size)
  obtain ⟨hc, hf⟩ := bcell hB3
  have hs2 : w.heap.size < w2.heap.size := by have := hB3.size; simp at this; omega
  rw [List.drop_drop] at hR2
  have HR2 : Hid _ := hR2
  have HX : Hid _ := hX
  clear hX hR2
  go_wp2_with fail
  exact bodyPost_ret (v := .tuple #[.agg #[.int .i64 2, .slice (some ⟨w1.heap.size, 0, none⟩) n n], .slice (some ⟨b, off2, none⟩) (len - 4 - n) (cap - 4 - n), .int .i64 0]) (by simp [results, Tryd.results44, go_sem, hc, hs2]) rfl
    ⟨off2, w1.heap.size, by omega, by simpa using hs3, rfl, (HX.out.set (by omega) _).set (by omega) _, HR2.out.below (below_on _ _ _ _) (fun _ => H.out.lt (by omega)), below_alloc2 hB3 _ _⟩

theorem u64_m1 : putL (IntKind.u64.wrap (-1)) 4 = [255, 255, 255, 255] := by decide +kernel

theorem u64_m2 : putL (IntKind.u64.wrap (-2)) 4 = [255, 255, 255, 254] := by decide +kernel

set_option maxHeartbeats 400000 in
theorem value_null (a : Option Addr) (len cap : Nat) (w : World) :
    Calls Tryd.prog 62 #[.agg #[.int .i64 0, .slice a len cap]] w fun e w' => ∃ v, e = .returned (.tuple #[v, .int .i64 0]) ∧ OwnB w' w.heap.size v 4 [255, 255, 255, 255] ∧ Below w.heap.size w w' := by
  go_enter Tryd.func62, Tryd.ntmps62
  go_wp2_with fail
  refine (putInt_any (-1) _).mono ?_
  rintro e w1 ⟨v, rfl, ho, hB⟩
  rw [u64_m1] at ho
  have HO : Hid (OwnB _ _ _ _ _) := ho
  clear ho
  go_wp2_with fail
  go_ret2
  exact ⟨v, rfl, HO.out.mono (by simp), (below_one _ _).trans (hB.mono (by simp))⟩

set_option maxHeartbeats 400000 in
theorem value_unset (a : Option Addr) (len cap : Nat) (w : World) :
    Calls Tryd.prog 62 #[.agg #[.int .i64 1, .slice a len cap]] w fun e w' => ∃ v, e = .returned (.tuple #[v, .int .i64 0]) ∧ OwnB w' w.heap.size v 4 [255, 255, 255, 254] ∧ Below w.heap.size w w' := by
  go_enter Tryd.func62, Tryd.ntmps62
  go_wp2_with fail
  refine (putInt_any (-2) _).mono ?_
  rintro e w1 ⟨v, rfl, ho, hB⟩
  rw [u64_m2] at ho
  have HO : Hid (OwnB _ _ _ _ _) := ho
  clear ho
  go_wp2_with fail
  go_ret2
  exact ⟨v, rfl, HO.out.mono (by simp), (below_one _ _).trans (hB.mono (by simp))⟩

set_option maxHeartbeats 400000 in
theorem value_none (k : Int) (a : Option Addr) (len cap : Nat) (w : World) (h0 : k ≠ 0) (h1 : k ≠ 1) (h2 : k ≠ 2) :
    Calls Tryd.prog 62 #[.agg #[.int .i64 k, .slice a len cap]] w fun e w' => e = .returned (.tuple #[.slice none 0 0, .int .i64 1]) ∧ Below w.heap.size w w' := by
  have t0 : (k == 0) = false := by simpa using h0
  have t1 : (k == 1) = false := by simpa using h1
  have t2 : (k == 2) = false := by simpa using h2
  clear h0 h1 h2
  go_enter Tryd.func62, Tryd.ntmps62
  go_wp2_with fail
  go_ret2
  exact ⟨rfl, below_one _ _⟩

/-- putInt behind the box of the argument: what it made, and the box and what it leads to still there. -/
theorem putInt_in (a : Option Addr) (len cap : Nat) (zs : List Int) (w W : World) (h : IsB w a len cap zs) (hl : len ≤ 140737488351232) (hW : Below (w.alloc (.cells #[.int .i64 2, .slice a len cap] 26)).heap.size (w.alloc (.cells #[.int .i64 2, .slice a len cap] 26)) W) :
    Calls Tryd.prog 81 #[.int .i64 len] W fun e w' => ∃ v, e = .returned v ∧ Hid (OwnB w' (w.heap.size + 1) v 4 (putL len 4)) ∧ Below w.heap.size w w' ∧ Hid (IsB w' a len cap zs) ∧
      w'.cell? ⟨w.heap.size, 1, none⟩ = some (.slice a len cap) ∧ w.heap.size + 1 ≤ w'.heap.size := by
  refine (putInt_any len W).mono ?_
  rintro e w1 ⟨v, rfl, ho, hB⟩
  rw [show IntKind.u64.wrap (len : Int) = len from by rw [IntKind.wrap_u64]; omega] at ho
  have hs := hW.size
  simp at hs
  have hB1 := hW.trans (hB.mono hW.size)
  have hB2 : Below w.heap.size w w1 := (below_one w _).trans (hB1.mono (by simp))
  have hs1 := hB1.size
  simp at hs1
  refine ⟨v, rfl, ho.mono (by omega), hB2, h.old hB2, ?_, by omega⟩
  rw [hB1.cell (by simp)]
  simp [go_sem]

theorem cell_on {w w1 w2 : World} {u : Value} {s : Nat} (hB : Below (s + 1) w1 w2) (h : w1.cell? ⟨s, 1, none⟩ = some u) : w2.cell? ⟨s, 1, none⟩ = some u := (hB.cell (by simp)).trans h

set_option maxHeartbeats 1000000 in
theorem value_set (a : Option Addr) (len cap : Nat) (zs : List Int) (w : World) (h : IsB w a len cap zs) (hsm : len ≤ 140737488351232) :
    Calls Tryd.prog 62 #[.agg #[.int .i64 2, .slice a len cap]] w fun e w' => ∃ v, e = .returned (.tuple #[v, .int .i64 0]) ∧ OwnB w' w.heap.size v (4 + len) (putL len 4 ++ zs) ∧ Below w.heap.size w w' := by
  have H : Hid (IsB w a len cap zs) := h
  have HBD : Hid (4 + len ≤ 140737488355328) := (by omega : 4 + len ≤ 140737488355328)
  clear h
  go_enter Tryd.func62, Tryd.ntmps62
  go_wp2_with fail
  go_region_held3 (fun w' => w'.cell? ⟨w.heap.size, 1, none⟩ = some (.slice a len cap)) (go_keep)
    (first
      | (go_at_call 81; refine (putInt_in a len cap zs w _ H.out hsm ?_).mono ?_; (exact (Below.refl _ _).drew); rintro e w1 ⟨v, rfl, HO, hB, HB, hc1, hs1⟩)
      | (refine step_append_bytes rfl (.tmp 17) (.tmp 19) rfl (by rfl) HO.out (by rfl) HB.out HBD.out hs1 ?_; intro v2 w2 ho2 hB2; have HO2 : Hid (OwnB _ _ _ _ _) := ho2; have hc2 := cell_on (w := w) hB2 hc1; clear ho2))
  go_wp2_with fail
  go_ret2
  exact ⟨v2, rfl, HO2.out.mono (by omega), hB.trans (hB2.mono (by omega))⟩

/-- A row of four bytes that is written out. -/
theorem own_four (w : World) (a b c d : Int) (base H : Nat) (hH : w.heap.size = H) (hb : base ≤ H) : OwnB (w.alloc (.cells #[.int .u8 a, .int .u8 b, .int .u8 c, .int .u8 d] 5)) base (.slice (some ⟨H, 0, none⟩) 4 4) 4 [a, b, c, d] := by
  subst hH
  exact ⟨rfl, .inr ⟨w.heap.size, 4, _, rfl, hb, heap_alloc_new w _, Nat.le_refl _, by unfold maxLen; omega, rfl, rfl⟩⟩

set_option maxHeartbeats 400000 in
theorem rvalue_null (s : ByteArray) (w : World) :
    Calls Tryd.prog 37 #[.agg #[.int .i64 0, .string s]] w fun e w' => ∃ v, e = .returned (.tuple #[v, .int .i64 0]) ∧ OwnB w' w.heap.size v 4 [255, 255, 255, 255] ∧ Below w.heap.size w w' := by
  go_enter Tryd.func37, Tryd.ntmps37
  go_wp2_with fail
  go_ret2
  exact ⟨_, rfl, own_four (w.alloc (.cells #[.int .i64 0, .string s] 35)) 255 255 255 255 w.heap.size (w.heap.size + 1) (by simp) (by omega), (below_one _ _).alloc (by simp) _⟩

set_option maxHeartbeats 400000 in
theorem rvalue_unset (s : ByteArray) (w : World) :
    Calls Tryd.prog 37 #[.agg #[.int .i64 1, .string s]] w fun e w' => ∃ v, e = .returned (.tuple #[v, .int .i64 0]) ∧ OwnB w' w.heap.size v 4 [255, 255, 255, 254] ∧ Below w.heap.size w w' := by
  go_enter Tryd.func37, Tryd.ntmps37
  go_wp2_with fail
  go_ret2
  exact ⟨_, rfl, own_four (w.alloc (.cells #[.int .i64 1, .string s] 35)) 255 255 255 254 w.heap.size (w.heap.size + 1) (by simp) (by omega), (below_one _ _).alloc (by simp) _⟩

set_option maxHeartbeats 400000 in
theorem rvalue_none (k : Int) (s : ByteArray) (w : World) (h0 : k ≠ 0) (h1 : k ≠ 1) (h2 : k ≠ 2) :
    Calls Tryd.prog 37 #[.agg #[.int .i64 k, .string s]] w fun e w' => e = .returned (.tuple #[.slice none 0 0, .int .i64 1]) ∧ Below w.heap.size w w' := by
  have t0 : (k == 0) = false := by simpa using h0
  have t1 : (k == 1) = false := by simpa using h1
  have t2 : (k == 2) = false := by simpa using h2
  clear h0 h1 h2
  go_enter Tryd.func37, Tryd.ntmps37
  go_wp2_with fail
  go_ret2
  exact ⟨rfl, below_one _ _⟩

set_option maxHeartbeats 400000 in
theorem rvalue_set (s : ByteArray) (w : World) (hs : s.size ≤ 140737488351232) :
    Calls Tryd.prog 37 #[.agg #[.int .i64 2, .string s]] w fun e w' => ∃ v, e = .returned (.tuple #[v, .int .i64 0]) ∧ OwnB w' w.heap.size v (4 + s.size) (putL s.size 4 ++ sNums s) ∧ Below w.heap.size w w' := by
  go_enter Tryd.func37, Tryd.ntmps37
  go_wp2_with fail
  refine (rlong_yes s _ hs).mono ?_
  rintro e w1 ⟨v, rfl, ho, hB⟩
  have HO : Hid (OwnB _ _ _ _ _) := ho
  clear ho
  go_wp2_with fail
  go_ret2
  exact ⟨v, rfl, HO.out.mono (by simp), (below_one _ _).trans (hB.mono (by simp))⟩

def valueA (zs : List Int) : Ans :=
  if zs.length < 4 then ⟨0, [], 0, 10⟩ else if int4 zs < -2 then ⟨0, [], 0, 11⟩ else if int4 zs = -2 then ⟨1, [], 4, 0⟩ else if int4 zs = -1 then ⟨0, [], 4, 0⟩ else
  if ((zs.length - 4 : Nat) : Int) < int4 zs then ⟨0, [], 0, 10⟩ else ⟨2, (zs.drop 4).take (int4 zs).toNat, 4 + (int4 zs).toNat, 0⟩

theorem getValue_any {w : World} {a : Option Addr} {len cap : Nat} {zs : List Int} (h : IsB w a len cap zs) (hsm : len ≤ 140737488351232) :
    Calls Tryd.prog 44 #[.slice a len cap] w fun e w' => ∃ r lr cr x lx cx, e = .returned (.tuple #[.agg #[.int .i64 (valueA zs).kind, .slice x lx cx], .slice r lr cr, .int .i64 (valueA zs).err]) ∧ Hid (IsB w' x lx cx (valueA zs).bytes) ∧ Fresh w.heap.size w' x ∧ Hid (Behind w' a r lr cr zs (valueA zs).done (valueA zs).err) ∧ Below w.heap.size w w' := by
  obtain ⟨h1, h2, h3, h4, h5⟩ := h
  subst h1
  by_cases hl : zs.length < 4
  · simp only [valueA, if_pos hl]
    refine (getValue_short0 a _ cap w hl).mono ?_
    rintro e w' ⟨rfl, hB⟩
    exact ⟨none, 0, 0, none, 0, 0, rfl, isB_nil _, Fresh.none, .inl ⟨by decide, rfl⟩, hB⟩
  · obtain ⟨b, off, rfl, hR⟩ := h5 (by omega)
    have hb := hR.lt (by omega)
    simp only [valueA, if_neg hl]
    by_cases hg : int4 zs < -2
    · simp only [if_pos hg]
      refine (getValue_form hR (by omega) hg).mono ?_
      rintro e w' ⟨rfl, hB⟩
      exact ⟨none, 0, 0, none, 0, 0, rfl, isB_nil _, Fresh.none, .inl ⟨by decide, rfl⟩, hB⟩
    · simp only [if_neg hg]
      by_cases hu : int4 zs = -2
      · simp only [if_pos hu]
        refine (getValue_unset hR (by omega) hu).mono ?_
        rintro e w' ⟨off', rfl, hR', hB⟩
        exact ⟨_, _, _, none, 0, 0, rfl, isB_nil _, Fresh.none, .inr ⟨rfl, by omega, by omega, b, off, off', rfl, rfl, Nat.lt_of_lt_of_le hb hB.size, hR'⟩, hB⟩
      · simp only [if_neg hu]
        by_cases hv : int4 zs = -1
        · simp only [if_pos hv]
          refine (getValue_null hR (by omega) hv).mono ?_
          rintro e w' ⟨off', rfl, hR', hB⟩
          exact ⟨_, _, _, none, 0, 0, rfl, isB_nil _, Fresh.none, .inr ⟨rfl, by omega, by omega, b, off, off', rfl, rfl, Nat.lt_of_lt_of_le hb hB.size, hR'⟩, hB⟩
        · simp only [if_neg hv]
          by_cases hn : ((zs.length - 4 : Nat) : Int) < int4 zs
          · simp only [if_pos hn]
            refine (getValue_short hR (by omega) hn).mono ?_
            rintro e w' ⟨rfl, hB⟩
            exact ⟨none, 0, 0, none, 0, 0, rfl, isB_nil _, Fresh.none, .inl ⟨by decide, rfl⟩, hB⟩
          · simp only [if_neg hn]
            obtain ⟨n, hn2⟩ := Int.eq_ofNat_of_zero_le (show 0 ≤ int4 zs by omega)
            rw [hn2, Int.toNat_natCast]
            refine (getValue_set hR hsm n (by omega) hn2).mono ?_
            rintro e w' ⟨off', g, hg, hgl, rfl, hX, hR', hB⟩
            exact ⟨_, _, _, _, _, _, rfl, hX.isB, Fresh.at hg hgl, .inr ⟨rfl, by omega, by omega, b, off, off', rfl, rfl, Nat.lt_of_lt_of_le hb hB.size, hR'⟩, hB⟩

def valueB (x : Int × ByteArray) : List Int × Int :=
  if x.1 = 0 then ([255, 255, 255, 255], 0) else if x.1 = 1 then ([255, 255, 255, 254], 0) else if x.1 = 2 then (putL x.2.size 4 ++ sNums x.2, 0) else ([], 1)

def valueR (zs : List Int) : Res (Int × ByteArray) := ⟨((valueA zs).kind, strOfNums (valueA zs).bytes), (valueA zs).done, (valueA zs).err⟩
end Go.Proofs.YtnapeecmlkkolaaDoor

namespace Go.Proofs.YtnapeecmlkkolaaDoor
open Go.RowKit
set_option maxRecDepth 100000
set_option linter.unusedVariables false
set_option linter.unusedSimpArgs false

/-- Bytes, and an error. -/
abbrev BE := List Int × Int

def seqB (S B : BE) : BE := if S.2 = 0 then (if B.2 = 0 then (S.1 ++ B.1, 0) else ([], B.2)) else ([], S.2)

/-- With an error there are no bytes. -/
def Nrm (S : BE) : Prop := S.2 ≠ 0 → S.1 = []

theorem seqB_assoc (A B C : BE) : seqB (seqB A B) C = seqB A (seqB B C) := by
  unfold seqB
  by_cases hA : A.2 = 0 <;> by_cases hB : B.2 = 0 <;> by_cases hC : C.2 = 0 <;> simp [hA, hB, hC, List.append_assoc]

theorem nrm_seq (A B : BE) : Nrm (seqB A B) := by
  unfold Nrm seqB
  split
  · split
    · intro h; exact absurd rfl h
    · intro _; rfl
  · intro _; rfl

theorem seqB_unit {S : BE} (h : Nrm S) : seqB S ([], 0) = S := by
  obtain ⟨X, e⟩ := S
  unfold seqB
  by_cases he : e = 0
  · subst he; simp
  · have := h he
    simp only at this
    subst this
    simp [he]

theorem unit_seqB {B : BE} (h : Nrm B) : seqB ([], 0) B = B := by
  obtain ⟨X, e⟩ := B
  unfold seqB
  by_cases he : e = 0
  · subst he; simp
  · have := h he
    simp only at this
    subst this
    simp [he]

theorem seqB_err {S : BE} (B : BE) (h : S.2 ≠ 0) : seqB S B = ([], S.2) := by unfold seqB; rw [if_neg h]

theorem seqB_ok {S B : BE} (h : S.2 = 0) (hb : B.2 = 0) : seqB S B = (S.1 ++ B.1, 0) := by unfold seqB; rw [if_pos h, if_pos hb]

theorem seqB_no {S B : BE} (h : S.2 = 0) (hb : B.2 ≠ 0) : seqB S B = ([], B.2) := by unfold seqB; rw [if_pos h, if_neg hb]

theorem seqB_keep {S B : BE} (hS : Nrm S) (h : S.2 ≠ 0) : seqB S B = S := by
  rw [seqB_err B h, ← hS h]

theorem seqB_fine {A B : BE} (h : (seqB A B).2 = 0) : A.2 = 0 ∧ B.2 = 0 ∧ seqB A B = (A.1 ++ B.1, 0) := by
  by_cases hA : A.2 = 0
  · by_cases hB : B.2 = 0
    · exact ⟨hA, hB, seqB_ok hA hB⟩
    · rw [seqB_no hA hB] at h; exact absurd h hB
  · rw [seqB_err B hA] at h; exact absurd h hA

abbrev Vl := Int × ByteArray

/-- A row of bytes. -/
def Rng (X : List Int) : Prop := ∀ j : Nat, 0 ≤ X[j]?.getD 0 ∧ X[j]?.getD 0 ≤ 255

theorem rng_nil : Rng [] := by intro j; simp

theorem rng_seq {A B : BE} (hA : Rng A.1) (hB : Rng B.1) : Rng (seqB A B).1 := by
  unfold seqB
  split
  · split
    · exact range_append hA hB
    · exact rng_nil
  · exact rng_nil

/-- But for the blocks S, and what is new, the world is as it was. -/
structure Kept (S : Nat → Prop) (w w' : World) : Prop where
  os : w'.os = w.os
  tape : w'.tape = w.tape
  output : w'.output = w.output
  size : w.heap.size ≤ w'.heap.size
  block : ∀ k, k < w.heap.size → ¬ S k → w'.heap[k]? = w.heap[k]?

theorem Kept.refl (S : Nat → Prop) (w : World) : Kept S w w := ⟨rfl, rfl, rfl, Nat.le_refl _, fun _ _ _ => rfl⟩

theorem Kept.trans {S S' : Nat → Prop} {a b c : World} (h : Kept S a b) (k : Kept S' b c) (hs : ∀ i, i < a.heap.size → S' i → S i) : Kept S a c :=
  ⟨k.os.trans h.os, k.tape.trans h.tape, k.output.trans h.output, Nat.le_trans h.size k.size, fun i hi hn => (k.block i (Nat.lt_of_lt_of_le hi h.size) (fun e => hn (hs i hi e))).trans (h.block i hi hn)⟩

theorem kept_of {S : Nat → Prop} {w w' : World} (h : Below w.heap.size w w') : Kept S w w' := ⟨h.os, h.tape, h.output, h.size, fun k hk _ => h.block k hk⟩

theorem Kept.below {S : Nat → Prop} {w w' : World} (h : Kept S w w') {B : Nat} (hB : B ≤ w.heap.size) (hs : ∀ k, k < w.heap.size → S k → B ≤ k) : Below B w w' :=
  ⟨h.os, h.tape, h.output, h.size, fun k hk => h.block k (by omega) (fun e => by have := hs k (by omega) e; omega)⟩

theorem Kept.setCell {S : Nat → Prop} {a w : World} (h : Kept S a w) {p : Addr} (hp : p.block < a.heap.size → S p.block) (u : Value) : Kept S a (w.setCell p u) :=
  h.trans (S' := fun k => k = p.block) ⟨rfl, rfl, rfl, by simp [World.setCell], fun k hk hn => Below.heap_setCell _ _ _ _ hn⟩ (fun i hi e => by subst e; exact hp hi)

theorem Kept.alloc {S : Nat → Prop} {a w : World} (h : Kept S a w) (o : Obj) : Kept S a (w.alloc o) :=
  h.trans (S' := fun _ => False) (kept_of ((Below.refl _ _).alloc (Nat.le_refl _) _)) (fun _ _ e => e.elim)

theorem Kept.new {S : Nat → Prop} {a w w' : World} (h : Kept S a w) (hB : Below w.heap.size w w') : Kept S a w' := h.trans (S' := fun _ => False) (kept_of hB) (fun _ _ e => e.elim)

theorem Kept.cell {S : Nat → Prop} {w w' : World} (h : Kept S w w') {p : Addr} (hp : p.block < w.heap.size) (hn : ¬ S p.block) : w'.cell? p = w.cell? p := World.cell?_of_block (w := w) (h.block _ hp hn)

theorem IsB.kept {S : Nat → Prop} {w W : World} {a : Option Addr} {len cap : Nat} {zs : List Int} (h : IsB w a len cap zs) (hK : Kept S w W) (hn : ∀ p, a = some p → 0 < len → ¬ S p.block) : IsB W a len cap zs := by
  obtain ⟨h1, h2, h3, h4, h5⟩ := h
  refine ⟨h1, h2, h3, h4, fun hp => ?_⟩
  obtain ⟨b, off, rfl, hR⟩ := h5 hp
  have hb := hR.lt hp
  exact ⟨b, off, rfl, hR.len_eq, hR.le, hR.cap_le, fun _ => Nat.lt_of_lt_of_le hb hK.size, fun i hi => (hK.cell (p := ⟨b, off + i, none⟩) hb (hn ⟨b, off, none⟩ rfl hp)).trans (hR.cell i hi), hR.rng⟩

theorem block_lt {w : World} {p : Nat} {o : Obj} (h : w.heap[p]? = some o) : p < w.heap.size := (Array.getElem?_eq_some_iff.1 h).1

/-- The cells of a block of two, and that none is frozen. -/
theorem two_cells {w : World} {p : Nat} {x0 x1 : Value} {t : TypeId} (h : w.heap[p]? = some (.cells #[x0, x1] t (0, 0))) :
    w.cell? ⟨p, 0, none⟩ = some x0 ∧ w.cell? ⟨p, 1, none⟩ = some x1 ∧ w.frozen? ⟨p, 0, none⟩ = false ∧ w.frozen? ⟨p, 1, none⟩ = false := by
  refine ⟨?_, ?_, ?_, ?_⟩ <;> simp [World.cell?, World.frozen?, h]

theorem two_set0 {w : World} {p : Nat} {x0 x1 : Value} {t : TypeId} (h : w.heap[p]? = some (.cells #[x0, x1] t (0, 0))) (u : Value) : (w.setCell ⟨p, 0, none⟩ u).heap[p]? = some (.cells #[u, x1] t (0, 0)) := by
  have hlt := block_lt h
  have h' : w.heap[p] = .cells #[x0, x1] t (0, 0) := by simpa [Array.getElem?_eq_getElem hlt] using h
  show (w.heap.modify p _)[p]? = _
  rw [Array.getElem?_eq_getElem (by simpa using hlt), Array.getElem_modify_self, h']
  rfl

theorem two_set1 {w : World} {p : Nat} {x0 x1 : Value} {t : TypeId} (h : w.heap[p]? = some (.cells #[x0, x1] t (0, 0))) (u : Value) : (w.setCell ⟨p, 1, none⟩ u).heap[p]? = some (.cells #[x0, u] t (0, 0)) := by
  have hlt := block_lt h
  have h' : w.heap[p] = .cells #[x0, x1] t (0, 0) := by simpa [Array.getElem?_eq_getElem hlt] using h
  show (w.heap.modify p _)[p]? = _
  rw [Array.getElem?_eq_getElem (by simpa using hlt), Array.getElem_modify_self, h']
  rfl

theorem one_kept (w : World) (p j : Nat) (v : Value) : Kept (fun k => k = p) w (w.setCell ⟨p, j, none⟩ v) := (Kept.refl (fun k => k = p) w).setCell (p := ⟨p, j, none⟩) (fun _ => rfl) v

/-- What is owned in other blocks stays. -/
theorem OwnB.kept {S : Nat → Prop} {w W : World} {base : Nat} {v : Value} {n : Nat} {X : List Int} (h : OwnB w base v n X) (hK : Kept S w W) (hn : ∀ k, v.ownBlock = some k → ¬ S k) : OwnB W base v n X := by
  refine ⟨h.1, ?_⟩
  rcases h.2 with h2 | ⟨g, cap, cur, hv, hg, hh, r⟩
  · exact .inl h2
  · exact .inr ⟨g, cap, cur, hv, hg, by rw [hK.block g (block_lt hh) (hn g (by rw [hv]; rfl))]; exact hh, r⟩

/-- append of bytes onto a row that is owned, and where the row lies then. -/
theorem append_own_run {w : World} {base : Nat} {v : Value} {n : Nat} {X : List Int} (hown : OwnB w base v n X) {xa : Option Addr} {len cap : Nat} {zs : List Int} (hB : IsB w xa len cap zs) (hbd : n + len ≤ 140737488355328) (hbase : base ≤ w.heap.size) (ty : TypeId) :
    ∃ v' w', (Builtin.append_ #[22, 22] ty #[v, .slice xa len cap]).run Tryd.prog w = .ok v' w' ∧ OwnB w' base v' (n + len) (X ++ zs) ∧ Kept (fun k => v.ownBlock = some k) w w' ∧ (v'.ownBlock = v.ownBlock ∨ v'.ownBlock = some w.heap.size) := by
  obtain ⟨i0, hi, hz0, hz1, hz2⟩ := info_parts Tryd.info5
  cases xa with
  | none =>
    obtain ⟨h1, h2, h3, h4, h5⟩ := hB
    obtain ⟨rfl, rfl⟩ := h4 rfl
    obtain rfl : zs = [] := List.eq_nil_of_length_eq_zero h1
    refine ⟨v, w, run_append_owned_none (P := Tryd.prog) (w := w) base 22 ty 5 i0 1 Tryd.underlying22 hi v n _ hown, ?_, Kept.refl _ _, .inl rfl⟩
    rw [List.append_nil]; exact hown
  | some x =>
    have hl : (zs.map (Value.int .u8)).length = len * 1 := by rw [List.length_map, hB.1, Nat.mul_one]
    obtain ⟨v', w', hr, h2, h3, _, h5⟩ := run_append_own_at (P := Tryd.prog) w base 22 ty 5 i0 (.int .u8 0) 1 1 Tryd.underlying22 hi hz0 hz1 hz2 rfl (by decide) v n _ hown x len cap _ hl hB.news (bytes_one zs) (by unfold maxLen; omega) (by omega) hbase
    exact ⟨v', w', hr, OwnB.join h2 rfl, ⟨h3.os, h3.tape, h3.output, h3.size, fun k hk hn => h3.block k hk (fun e => hn e.symm)⟩, h5⟩

theorem wpList_append_own {ops : Array Oper} {rest : List Oper} {o : Oper} {a : Act} {w : World} {Q : Exit → Act → World → Prop} (hgd : o.guard = none) (s x : Operand)
    (ho : o.op = .call { callee := .builtin .append, args := #[s, x], argTypes := #[22, 22] })
    {base : Nat} {v : Value} {n : Nat} {X : List Int} (hs : a.eval s = v) (hown : OwnB w base v n X) {xa : Option Addr} {len cap : Nat} {zs : List Int} (hx : a.eval x = .slice xa len cap) (hB : IsB w xa len cap zs) (hbd : n + len ≤ 140737488355328) (hbase : base ≤ w.heap.size)
    (h : ∀ v' w', OwnB w' base v' (n + len) (X ++ zs) → Kept (fun k => v.ownBlock = some k) w w' → (v'.ownBlock = v.ownBlock ∨ v'.ownBlock = some w.heap.size) → wpList Tryd.prog ops Q rest (a.put o.dst v') w') : wpList Tryd.prog ops Q (o :: rest) a w := by
  refine wpList_plain hgd fun K hK => ?_
  obtain ⟨v', w', hr, h2, h3, h4⟩ := append_own_run hown hB hbd hbase o.type
  unfold Oper.wp
  simp [execOp, ho, resolve, invoke, builtin, hs, hx, hr, Result.andThen]
  exact hK _ _ (h v' w' h2 h3 h4)
end Go.Proofs.YtnapeecmlkkolaaDoor

namespace Go.Proofs.YtnapeecmlkkolaaDoor
open Go.RowKit
set_option maxRecDepth 100000
set_option linter.unusedVariables false
set_option linter.unusedSimpArgs false

theorem kept_grown {w w' : World} {row : Option Nat} (h : w.grownBy w' row) : Kept (fun k => row = some k) w w' :=
  ⟨h.os, h.tape, h.output, h.size, fun k hk hn => h.block k hk (fun e => hn e.symm)⟩

theorem kept_below {n : Nat} {w w' : World} (h : Below n w w') : Kept (fun k => n ≤ k) w w' := ⟨h.os, h.tape, h.output, h.size, fun k hk hn => h.block k (by omega)⟩

theorem own_block_lt {w : World} {base : Nat} {e : TypeId} {size : Nat} {v : Value} {n : Nat} {xs : List Value} (h : w.ownsRow base e size v n xs) : ∀ k, v.ownBlock = some k → k < w.heap.size := fun k hk => (World.ownsRow.lt h k hk).2

/-- An item's view: in a world, with its blocks in a set. -/
abbrev Vw (α : Type) := (Nat → Prop) → World → α → (Nat → Value) → Prop

/-- A slice that owns its row of items, with all blocks that they lead to in a set. -/
def OwnI {α : Type} (e : TypeId) (size : Nat) (V : Vw α) (w : World) (F : Nat → Prop) (v : Value) (xs : List α) : Prop :=
  ∃ cs : List Value, w.ownsRow 0 e size v xs.length cs ∧ (∀ k, v.ownBlock = some k → F k) ∧ (∀ u ∈ cs, u.oneCell' = true) ∧
    ∀ i x, xs[i]? = some x → V (fun k => k < w.heap.size ∧ v.ownBlock ≠ some k ∧ F k) w x (fun j => cs.getD (i * size + j) default)

def StaysI {α : Type} (size : Nat) (V : Vw α) : Prop :=
  ∀ (F F' : Nat → Prop) (w w' : World) (x : α) (c c' : Nat → Value), V F w x c → (∀ j, j < size → c' j = c j) → (∀ k, k < w.heap.size → F k → w'.heap[k]? = w.heap[k]?) → w.heap.size ≤ w'.heap.size → (∀ k, k < w.heap.size → F k → F' k) → V F' w' x c'

theorem ownI_nil {α : Type} (e : TypeId) (size : Nat) (V : Vw α) (w : World) (F : Nat → Prop) : OwnI e size V w F (.slice none 0 0) ([] : List α) :=
  ⟨[], World.ownsRow_nil _ _ _ _, (fun k h => by simp [Value.ownBlock] at h), (fun u h => by cases h), (fun i x hi => by simp at hi)⟩

/-- What the program's table says of a type of slices. -/
def Elem (t e : TypeId) (size bytes : Nat) : Prop :=
  0 < size ∧ Tryd.prog.underlying t = some (.slice e) ∧ ∃ i z, Tryd.prog.info? e = some i ∧ i.zero = some z ∧ i.size = size ∧ i.bytes = bytes ∧ z.cells.size = size

section
variable {α : Type} {e : TypeId} {size : Nat} {V : Vw α}

theorem OwnI.lt {w : World} {F : Nat → Prop} {v : Value} {xs : List α} (h : OwnI e size V w F v xs) : ∀ k, v.ownBlock = some k → F k ∧ k < w.heap.size := by
  obtain ⟨cs, ho, hF, _⟩ := h
  exact fun k hk => ⟨hF k hk, own_block_lt ho k hk⟩

theorem OwnI.shape {w : World} {F : Nat → Prop} {v : Value} {xs : List α} (h : OwnI e size V w F v xs) : ∃ a cap, v = .slice a xs.length cap := by
  obtain ⟨cs, ho, _⟩ := h
  rcases ho.2 with ⟨rfl, h0⟩ | ⟨g, cap, cur, rfl, _⟩
  · exact ⟨none, 0, by rw [h0]⟩
  · exact ⟨_, cap, rfl⟩

theorem OwnI.kept (hV : StaysI size V) {w W : World} {F F' : Nat → Prop} {v : Value} {xs : List α} (h : OwnI e size V w F v xs) (hb : ∀ k, k < w.heap.size → F k → W.heap[k]? = w.heap[k]?) (hs : w.heap.size ≤ W.heap.size) (hF : ∀ k, k < w.heap.size → F k → F' k) : OwnI e size V W F' v xs := by
  obtain ⟨cs, ho, h1, h2, h3⟩ := h
  refine ⟨cs, ⟨ho.1, ?_⟩, fun k hk => hF k (own_block_lt ho k hk) (h1 k hk), h2, fun i x hi => ?_⟩
  · rcases ho.2 with h4 | ⟨g, cap, cur, hv, hg, hh, r⟩
    · exact .inl h4
    · exact .inr ⟨g, cap, cur, hv, hg, by rw [hb g (block_lt hh) (h1 g (by rw [hv]; rfl))]; exact hh, r⟩
  · exact hV _ _ w W _ _ _ (h3 i x hi) (fun _ _ => rfl) (fun k hk hf => hb k hk hf.2.2) hs (fun k hk hf => ⟨Nat.lt_of_lt_of_le hf.1 hs, hf.2.1, hF k hk hf.2.2⟩)

theorem OwnI.old (hV : StaysI size V) {w W : World} {F : Nat → Prop} {v : Value} {xs : List α} (h : OwnI e size V w F v xs) (hB : Below w.heap.size w W) : OwnI e size V W F v xs :=
  h.kept hV (fun k hk _ => hB.block k hk) hB.size (fun _ _ hf => hf)

/-- Blocks outside the set are written, or made: what is owned stays. -/
theorem OwnI.apart (hV : StaysI size V) {w W : World} {F K : Nat → Prop} {v : Value} {xs : List α} (h : OwnI e size V w F v xs) (hK : Kept K w W) (hn : ∀ k, k < w.heap.size → F k → ¬ K k) : OwnI e size V W F v xs :=
  h.kept hV (fun k hk hf => hK.block k hk (hn k hk hf)) hK.size (fun _ _ hf => hf)

theorem OwnI.sub (hV : StaysI size V) {w : World} {F F' : Nat → Prop} {v : Value} {xs : List α} (h : OwnI e size V w F v xs) (hF : ∀ k, k < w.heap.size → F k → F' k) : OwnI e size V w F' v xs :=
  h.kept hV (fun _ _ _ => rfl) (Nat.le_refl _) hF

/-- What is owned, seen. -/
theorem OwnI.sees {w : World} {F : Nat → Prop} {v : Value} {xs : List α} {U : α → (Nat → Value) → Prop} (h : OwnI e size V w F v xs) (hU : ∀ x c, x ∈ xs → V F w x c → U x c) (hV : StaysI size V) :
    ∃ a cap, v = .slice a xs.length cap ∧ Sees size F U w a xs.length cap xs := by
  obtain ⟨cs, ho, hF, hc1, hc⟩ := h
  have ho' := ho
  obtain ⟨hlen, h2⟩ := ho'
  rcases h2 with ⟨rfl, h0⟩ | ⟨g, cap, cur, rfl, hg, hh, hnc, hm, hs, htake⟩
  · obtain rfl : xs = [] := List.eq_nil_of_length_eq_zero h0
    exact ⟨none, 0, rfl, sees_nil _ _ _ _⟩
  · have hgs := (Array.getElem?_eq_some_iff.1 hh).1
    refine ⟨_, cap, rfl, rfl, hnc, hm, (fun e => by cases e), fun hp => ⟨g, 0, rfl, hgs, hF g rfl, fun i x hx => ⟨fun j => cs.getD (i * size + j) default, fun j hj => ?_, hU x _ (List.mem_of_getElem? hx) ?_⟩⟩⟩
    · have hi := (List.getElem?_eq_some_iff.1 hx).1
      have hij : i * size + j < xs.length * size := by
        have : (i + 1) * size ≤ xs.length * size := Nat.mul_le_mul_right _ hi
        rw [Nat.succ_mul] at this
        omega
      rw [Nat.zero_add]
      have hcell := ho.cells (g := g) rfl (i * size + j) (cs.getD (i * size + j) default) (by rw [List.getD_eq_getElem?_getD, List.getElem?_eq_getElem (by omega)]; rfl)
      have hplain : (⟨g, 0, none⟩ : Addr).add (i * size + j) = ⟨g, i * size + j, none⟩ := by unfold Addr.add; split <;> simp_all
      rw [hplain] at hcell
      exact hcell
    · exact hV _ _ w w _ _ _ (hc i x hx) (fun _ _ => rfl) (fun _ _ _ => rfl) (Nat.le_refl _) (fun k hk hf => hf.2.2)

/-- append of one item that lies in a block of its own. -/
theorem appendI_run {t : TypeId} {bytes : Nat} (hV : StaysI size V) (hE : Elem t e size bytes) {w : World} {F : Nat → Prop} {v : Value} {xs : List α} (h : OwnI e size V w F v xs)
    {B : Nat} {news : List Value} {tt : TypeId} {fr : Nat × Nat} (hB : w.heap[B]? = some (.cells news.toArray tt fr)) (hn : news.length = size) (h1 : ∀ u ∈ news, u.oneCell' = true) (x : α) (hx : V (fun k => k < w.heap.size ∧ v.ownBlock ≠ some k ∧ F k) w x (fun j => news.getD j default))
    (hF : F w.heap.size) (h63 : xs.length + 1 ≤ maxLen) (hbd : (xs.length + 1) * bytes ≤ 140737488355328) (ty : TypeId) (c : Nat) :
    ∃ v' w', (Builtin.append_ #[t, t] ty #[v, .slice (some ⟨B, 0, none⟩) 1 c]).run Tryd.prog w = .ok v' w' ∧ OwnI e size V w' F v' (xs ++ [x]) ∧ Kept (fun k => v.ownBlock = some k) w w' ∧ (v'.ownBlock = v.ownBlock ∨ v'.ownBlock = some w.heap.size) := by
  obtain ⟨hsz, ht, i, z, hi, hz, hsize, hby, hzs⟩ := hE
  obtain ⟨cs, ho, hF1, hc1, hc⟩ := h
  have hcl := ho.1
  obtain ⟨v', w', hr, ho', hg, hnil, hat⟩ := run_append_own_at (P := Tryd.prog) w 0 t ty e i z size bytes ht hi hz hsize hby hzs hsz v xs.length cs ho ⟨B, 0, none⟩ 1 c news (by rw [hn, Nat.one_mul]) (World.news_of_block hB) h1 h63 hbd (by omega)
  have hK := kept_grown hg
  have hfar : ∀ k, k < w.heap.size → v.ownBlock ≠ some k → v'.ownBlock ≠ some k := by
    intro k hk hne e
    rcases hat with hat | hat
    · exact hne (by rw [← hat]; exact e)
    · rw [hat] at e; simp only [Option.some.injEq] at e; omega
  refine ⟨v', w', hr, ⟨cs ++ news, by rw [List.length_append]; exact ho', fun k hk => ?_, fun u hu => ?_, fun i y hi => ?_⟩, hK, hat⟩
  · rcases hat with hat | hat
    · exact hF1 k (by rw [← hat]; exact hk)
    · rw [hat] at hk; simp only [Option.some.injEq] at hk; subst hk; exact hF
  · rcases List.mem_append.1 hu with hu | hu
    · exact hc1 u hu
    · exact h1 u hu
  · by_cases hlt2 : i < xs.length
    · rw [List.getElem?_append_left hlt2] at hi
      have hij : ∀ j, j < size → (cs ++ news).getD (i * size + j) default = cs.getD (i * size + j) default := fun j hj => by
        have : (i + 1) * size ≤ xs.length * size := Nat.mul_le_mul_right _ hlt2
        rw [Nat.succ_mul] at this
        exact getD_left (by omega)
      exact hV _ _ w w' _ _ _ (hc i y hi) (fun j hj => hij j hj) (fun k hk hf => hK.block k hk hf.2.1) hK.size (fun k hk hf => ⟨Nat.lt_of_lt_of_le hf.1 hK.size, hfar k hf.1 hf.2.1, hf.2.2⟩)
    · have hlen := (List.getElem?_eq_some_iff.1 hi).1
      rw [List.length_append, List.length_singleton] at hlen
      obtain rfl : i = xs.length := by omega
      have hij : ∀ j, j < size → (cs ++ news).getD (xs.length * size + j) default = news.getD j default := fun j hj => getD_right _ j (by omega)
      obtain rfl : x = y := by simpa using hi
      exact hV _ _ w w' _ _ _ hx (fun j hj => hij j hj) (fun k hk hf => hK.block k hk hf.2.1) hK.size (fun k hk hf => ⟨Nat.lt_of_lt_of_le hf.1 hK.size, hfar k hf.1 hf.2.1, hf.2.2⟩)

theorem wpList_appendI {ops : Array Oper} {rest : List Oper} {o : Oper} {a : Act} {Q : Exit → Act → World → Prop} {w : World} (hgd : o.guard = none) (s y : Operand) (t : TypeId)
    (ho : o.op = .call { callee := .builtin .append, args := #[s, y], argTypes := #[t, t] })
    {bytes : Nat} (hV : StaysI size V) (hE : Elem t e size bytes) {F : Nat → Prop} {v : Value} {xs : List α} (hs : a.eval s = v) (h : OwnI e size V w F v xs)
    {B c : Nat} {news : List Value} {tt : TypeId} {fr : Nat × Nat} (hy : a.eval y = .slice (some ⟨B, 0, none⟩) 1 c) (hB : w.heap[B]? = some (.cells news.toArray tt fr)) (hn : news.length = size) (h1 : ∀ u ∈ news, u.oneCell' = true) (x : α) (hx : V (fun k => k < w.heap.size ∧ v.ownBlock ≠ some k ∧ F k) w x (fun j => news.getD j default))
    (hF : F w.heap.size) (h63 : xs.length + 1 ≤ maxLen) (hbd : (xs.length + 1) * bytes ≤ 140737488355328)
    (hk : Hid (∀ v' w', OwnI e size V w' F v' (xs ++ [x]) → Kept (fun k => v.ownBlock = some k) w w' → (v'.ownBlock = v.ownBlock ∨ v'.ownBlock = some w.heap.size) → wpList Tryd.prog ops Q rest (a.put o.dst v') w')) : wpList Tryd.prog ops Q (o :: rest) a w := by
  refine wpList_plain hgd fun K hK => ?_
  obtain ⟨v', w', hr, h2, h3, h4⟩ := appendI_run hV hE h hB hn h1 x hx hF h63 hbd o.type c
  unfold Oper.wp
  simp [execOp, ho, resolve, invoke, builtin, hs, hy, hr, Result.andThen]
  exact hK _ _ (hk.out v' w' h2 h3 h4)
end

/-- Bytes that lie in blocks of a set. -/
def IsBF (F : Nat → Prop) (w : World) (a : Option Addr) (l c : Nat) (zs : List Int) : Prop := IsB w a l c zs ∧ ∀ q, a = some q → 0 < l → F q.block ∧ q.block < w.heap.size

theorem IsBF.stay {F F' : Nat → Prop} {w w' : World} {a : Option Addr} {l c : Nat} {zs : List Int} (h : IsBF F w a l c zs) (hb : ∀ k, k < w.heap.size → F k → w'.heap[k]? = w.heap[k]?) (hs : w.heap.size ≤ w'.heap.size) (hF : ∀ k, k < w.heap.size → F k → F' k) : IsBF F' w' a l c zs := by
  obtain ⟨⟨h1, h2, h3, h4, h5⟩, h6⟩ := h
  refine ⟨⟨h1, h2, h3, h4, fun hp => ?_⟩, fun q hq hl => ⟨hF _ (h6 q hq hl).2 (h6 q hq hl).1, Nat.lt_of_lt_of_le (h6 q hq hl).2 hs⟩⟩
  obtain ⟨b, off, rfl, hR⟩ := h5 hp
  obtain ⟨hf, hlt⟩ := h6 _ rfl hp
  exact ⟨b, off, rfl, hR.len_eq, hR.le, hR.cap_le, fun _ => Nat.lt_of_lt_of_le hlt hs, fun i hi => (World.cell?_of_block (w := w) (w' := w') (a := ⟨b, off + i, none⟩) (hb b hlt hf)).trans (hR.cell i hi), hR.rng⟩

/-- A value, a row of values, a column. -/
def VVal : Vw Vl := fun F w x c => c 0 = .int .i64 x.1 ∧ ∃ a l cp, c 1 = .slice a l cp ∧ IsBF F w a l cp (sNums x.2)
def VRow : Vw (List Vl) := fun F w xs c => OwnI 26 2 VVal w F (c 0) xs
abbrev Col := ByteArray × ByteArray × ByteArray × Ty
def VCol (n : Nat) : Vw Col := fun F w x c => (c 0 = .string x.1 ∧ x.1.size ≤ maxLen) ∧ (c 1 = .string x.2.1 ∧ x.2.1.size ≤ maxLen) ∧ (c 2 = .string x.2.2.1 ∧ x.2.2.1.size ≤ maxLen) ∧ VT n F w x.2.2.2 (fun j => c (3 + j))
def VKey : Vw Int := fun _ _ x c => c 0 = .int .u16 x

theorem stays_val : StaysI 2 VVal := by
  intro F F' w w' x c c' h hc hb hs hF
  obtain ⟨h0, a, l, cp, h1, hv⟩ := h
  exact ⟨(hc 0 (by omega)).trans h0, a, l, cp, (hc 1 (by omega)).trans h1, hv.stay hb hs hF⟩
theorem stays_row : StaysI 1 VRow := by
  intro F F' w w' x c c' h hc hb hs hF
  unfold VRow at h ⊢
  rw [hc 0 (by omega)]
  exact OwnI.kept stays_val h hb hs hF
theorem stays_col (n : Nat) : StaysI 8 (VCol n) := by
  intro F F' w w' x c c' h hc hb hs hF
  obtain ⟨⟨h0, m0⟩, ⟨h1, m1⟩, ⟨h2, m2⟩, h3⟩ := h
  refine ⟨⟨(hc 0 (by omega)).trans h0, m0⟩, ⟨(hc 1 (by omega)).trans h1, m1⟩, ⟨(hc 2 (by omega)).trans h2, m2⟩, ?_⟩
  exact (VT.mono (fun k hk hf => ⟨hF k hk hf, hb k hk hf⟩) hs h3).cells (fun j hj => hc (3 + j) (by omega))
theorem stays_key : StaysI 1 VKey := fun _ _ _ _ _ _ _ h hc _ _ _ => (hc 0 (by omega)).trans h

theorem Tryd.info26 : (Tryd.prog.info? 26).map (fun i => (i.zero, i.size, i.bytes)) = some (some (.agg #[.int .i64 0, .slice none 0 0]), 2, 32) := by kernel_rfl
theorem Tryd.info65 : (Tryd.prog.info? 65).map (fun i => (i.zero, i.size, i.bytes)) = some (some (.slice none 0 0), 1, 24) := by kernel_rfl
theorem Tryd.info64 : (Tryd.prog.info? 64).map (fun i => (i.zero, i.size, i.bytes)) = some (some (.agg #[.string ⟨#[]⟩, .string ⟨#[]⟩, .string ⟨#[]⟩, .int .u16 0, .string ⟨#[]⟩, .string ⟨#[]⟩, .slice none 0 0, .slice none 0 0]), 8, 136) := by kernel_rfl
theorem Tryd.info51 : (Tryd.prog.info? 51).map (fun i => (i.zero, i.size, i.bytes)) = some (some (.int .u16 0), 1, 2) := by kernel_rfl
theorem elem_val : Elem 65 26 2 32 := by
  obtain ⟨i0, hi, hz0, hz1, hz2⟩ := info_parts Tryd.info26
  exact ⟨by decide, Tryd.underlying65, i0, _, hi, hz0, hz1, hz2, rfl⟩
theorem elem_row : Elem 27 65 1 24 := by
  obtain ⟨i0, hi, hz0, hz1, hz2⟩ := info_parts Tryd.info65
  exact ⟨by decide, Tryd.underlying27, i0, _, hi, hz0, hz1, hz2, rfl⟩
theorem elem_col : Elem 24 64 8 136 := by
  obtain ⟨i0, hi, hz0, hz1, hz2⟩ := info_parts Tryd.info64
  exact ⟨by decide, Tryd.underlying24, i0, _, hi, hz0, hz1, hz2, rfl⟩
theorem elem_key : Elem 44 51 1 2 := by
  obtain ⟨i0, hi, hz0, hz1, hz2⟩ := info_parts Tryd.info51
  exact ⟨by decide, Tryd.underlying44, i0, _, hi, hz0, hz1, hz2, rfl⟩

end Go.Proofs.YtnapeecmlkkolaaDoor

namespace Go.Proofs.YtnapeecmlkkolaaDoor
open Go.RowKit
set_option maxRecDepth 100000
set_option linter.unusedVariables false
set_option linter.unusedSimpArgs false

abbrev Ps (α : Type) := List Int → Res α

/-- A reader's bytes and its error, behind a parser. -/
def stepR {α : Type} (p : Ps α) (S : BE) : BE := if S.2 = 0 then (if (p S.1).err = 0 then (S.1.drop (p S.1).done, 0) else ([], (p S.1).err)) else ([], S.2)

def bindR {α β : Type} (p : Ps α) (f : α → Ps β) : Ps β := fun zs =>
  if (p zs).err = 0 then
    (if (f (p zs).val (zs.drop (p zs).done)).err = 0 then ⟨(f (p zs).val (zs.drop (p zs).done)).val, (p zs).done + (f (p zs).val (zs.drop (p zs).done)).done, 0⟩ else ⟨(f (p zs).val zs).val, 0, (f (p zs).val (zs.drop (p zs).done)).err⟩)
  else ⟨(f (p zs).val zs).val, 0, (p zs).err⟩
def pureR {α : Type} (a : α) : Ps α := fun _ => ⟨a, 0, 0⟩
def failR {α : Type} (a : α) (e : Int) : Ps α := fun _ => ⟨a, 0, e⟩
def optR {α : Type} (b : Bool) (a : α) (p : Ps α) : Ps α := if b then p else pureR a

theorem step_nrm {α : Type} (p : Ps α) (S : BE) : Nrm (stepR p S) := by
  unfold Nrm stepR
  split
  · split
    · intro h; exact absurd rfl h
    · intro _; rfl
  · intro _; rfl

theorem step_ok {α : Type} {p : Ps α} {S : BE} (h : (stepR p S).2 = 0) : S.2 = 0 ∧ (p S.1).err = 0 ∧ stepR p S = (S.1.drop (p S.1).done, 0) := by
  unfold stepR at h ⊢
  by_cases h1 : S.2 = 0
  · rw [if_pos h1] at h ⊢
    by_cases h2 : (p S.1).err = 0
    · rw [if_pos h2]; exact ⟨h1, h2, rfl⟩
    · rw [if_neg h2] at h; exact absurd h h2
  · rw [if_neg h1] at h; exact absurd h h1

theorem step_err {α : Type} (p : Ps α) {S : BE} (h : S.2 ≠ 0) (hn : Nrm S) : stepR p S = S := by
  unfold stepR
  rw [if_neg h, ← hn h]

theorem step_pure {α : Type} (a : α) {S : BE} (hn : Nrm S) : stepR (pureR a) S = S := by
  obtain ⟨X, e⟩ := S
  unfold stepR pureR
  by_cases h : e = 0
  · subst h; simp
  · have := hn h
    simp only at this
    subst this
    simp [h]

theorem step_bind {α β : Type} (p : Ps α) (f : α → Ps β) (S : BE) : stepR (bindR p f) S = stepR (f (p S.1).val) (stepR p S) := by
  unfold stepR bindR
  by_cases h1 : S.2 = 0
  · by_cases h2 : (p S.1).err = 0
    · by_cases h3 : (f (p S.1).val (S.1.drop (p S.1).done)).err = 0
      · simp [h1, h2, h3, List.drop_drop]
      · simp [h1, h2, h3]
    · simp [h1, h2]
  · simp [h1]

theorem bind_val {α β : Type} (p : Ps α) (f : α → Ps β) (S : BE) (h : (stepR (bindR p f) S).2 = 0) : (bindR p f S.1).val = (f (p S.1).val (stepR p S).1).val := by
  obtain ⟨h1, h2, h3⟩ := step_ok h
  unfold bindR at h2 ⊢
  by_cases hp : (p S.1).err = 0
  · rw [if_pos hp] at h2 ⊢
    have hs : (stepR p S).1 = S.1.drop (p S.1).done := by unfold stepR; rw [if_pos h1, if_pos hp]
    rw [hs]
    by_cases hf : (f (p S.1).val (S.1.drop (p S.1).done)).err = 0
    · rw [if_pos hf]
    · rw [if_neg hf] at h2; exact absurd h2 hf
  · rw [if_neg hp] at h2; exact absurd h2 hp

/-- Without an error behind both there is none behind the first. -/
theorem bind_fst {α β : Type} (p : Ps α) (f : α → Ps β) (S : BE) (h : (stepR (bindR p f) S).2 = 0) : (stepR p S).2 = 0 := by
  rw [step_bind] at h
  by_cases h1 : (stepR p S).2 = 0
  · exact h1
  · rw [step_err _ h1 (step_nrm _ _)] at h; exact h

theorem step_opt_no {α : Type} (a : α) (p : Ps α) {S : BE} (hn : Nrm S) : stepR (optR false a p) S = S := step_pure _ hn
theorem step_opt_yes {α : Type} (a : α) (p : Ps α) (S : BE) : stepR (optR true a p) S = stepR p S := rfl

def numR (n : Nat) : Ps Int := fun zs => if zs.length < n then ⟨0, 0, 10⟩ else ⟨numTo zs n, n, 0⟩
def int4R : Ps Int := bindR (numR 4) fun x => pureR (sgn x 4)
def manyR : Ps Int := bindR int4R fun n => if n < 0 then failR 0 11 else if 4096 < n then failR 0 12 else pureR n
def headR : Ps (Int × Int) := bindR int4R fun f => if f < 0 ∨ 7 < f then failR (f, 0) 21 else bindR manyR fun n => pureR (f, n)

/-- So many items, one behind the other. -/
def loopR {α : Type} (p : Ps α) : Nat → Ps (List α)
  | 0 => pureR []
  | n + 1 => bindR p fun x => bindR (loopR p n) fun l => pureR (x :: l)

def keysR (count : Int) : Ps (List Int) := bindR manyR fun m => bindR (loopR (numR 2) m.toNat) fun l => if l.any (fun k => decide (count ≤ k)) then failR l 11 else pureR l
def ownerR : Ps (ByteArray × ByteArray) := bindR textR fun s => bindR textR fun t => pureR (s, t)
def colR (g : Bool) (o : ByteArray × ByteArray) : Ps Col := bindR (optR (!g) o ownerR) fun o => bindR textR fun n => bindR (tyR 20) fun t => pureR (o.1, o.2, n, t)
def colsR (n : Nat) (g : Bool) : Ps (List Col) := bindR (optR g (ByteArray.empty, ByteArray.empty) ownerR) fun o => loopR (colR g o) n
def setR : Ps Vl := bindR valueR fun v => if v.1 = 1 then failR v 11 else pureR v
def rowsR (n : Nat) : Ps (List (List Vl)) := bindR manyR fun m => loopR (loopR setR n) m.toNat

/-- Columns and rows: how many columns, the columns, more, the state, the rows. -/
abbrev Tb := Int × List Col × Bool × Vl × List (List Vl)
def Tb.count (t : Tb) : Int := t.1
def Tb.cols (t : Tb) : List Col := t.2.1
def Tb.more (t : Tb) : Bool := t.2.2.1
def Tb.state (t : Tb) : Vl := t.2.2.2.1
def Tb.rows (t : Tb) : List (List Vl) := t.2.2.2.2
def bitX (x k : Int) : Bool := !(bits .and .i64 x k == 0)
def v0 : Vl := (0, ByteArray.empty)
def tableR (f n : Int) : Ps Tb := bindR (optR (bitX f 2) v0 valueR) fun s => bindR (optR (!bitX f 4) [] (colsR n.toNat (bitX f 1))) fun l => pureR (n, l, bitX f 2, s, [])
def tabR : Ps Tb := bindR headR fun h => bindR (tableR h.1 h.2) fun t => bindR (rowsR h.2.toNat) fun r => pureR (t.1, t.2.1, t.2.2.1, t.2.2.2.1, r)
def metaR : Ps (List Int × Tb × Tb) := bindR headR fun h => bindR (keysR h.2) fun k => bindR (tableR h.1 h.2) fun t => bindR headR fun h2 => bindR (tableR h2.1 h2.2) fun u => pureR (k, t, u)
/-- The error, with bytes that are left. -/
def endE {α : Type} (p : Ps α) (zs : List Int) : Int := if (p zs).err = 0 then (if (p zs).done < zs.length then 23 else 0) else (p zs).err

end Go.Proofs.YtnapeecmlkkolaaDoor

namespace Go.Proofs.YtnapeecmlkkolaaDoor
open Go.RowKit
set_option linter.unusedVariables false
set_option linter.unusedSimpArgs false

theorem told_text (N : Int) (Z : List Int) (h0 : 0 ≤ N) : numTo (putL N 2 ++ Z) 2 = N % 65536 := numTo_putL N 2 Z (by omega) (by omega)
theorem told_len (N : Int) (n : Nat) (Z : List Int) : (putL N n ++ Z).length = n + Z.length := by rw [List.length_append, putL_length]
theorem told_front (N : Int) (n : Nat) (Z : List Int) : (putL N n ++ Z).drop n = Z := by
  have := List.drop_left (l₁ := putL N n) (l₂ := Z)
  rwa [putL_length] at this
theorem text_told_no (N : Int) (Z : List Int) (h0 : 0 ≤ N) (h : (Z.length : Int) < N % 65536) : textA (putL N 2 ++ Z) = ⟨0, [], 0, 10⟩ := by
  unfold textA
  rw [told_len, told_text N Z h0, if_neg (by omega), if_pos (by omega)]
theorem text_told_yes (N : Int) (Z : List Int) (S : Nat) (h0 : 0 ≤ N) (hS : N % 65536 = S) (h : S ≤ Z.length) : textA (putL N 2 ++ Z) = ⟨0, Z.take S, 2 + S, 0⟩ := by
  unfold textA
  rw [told_len, told_text N Z h0, hS, if_neg (by omega), if_neg (by omega), told_front, Int.toNat_natCast]

theorem str_join (A B : List Int) : strOfNums A ++ strOfNums B = strOfNums (A ++ B) := by
  apply ByteArray.ext
  apply Array.ext'
  simp [strOfNums, ByteArray.data_append]
theorem sNums_strOfNums {zs : List Int} (h : ∀ j : Nat, 0 ≤ zs[j]?.getD 0 ∧ zs[j]?.getD 0 ≤ 255) : sNums (strOfNums zs) = zs := by
  apply List.ext_getElem?
  intro j
  have hj := h j
  by_cases hl : j < zs.length
  · rw [List.getElem?_eq_getElem hl] at hj ⊢
    simp only [Option.getD_some] at hj
    simp [sNums, strOfNums, hl]
    omega
  · simp [sNums, strOfNums]
    rw [List.getElem?_eq_none (by omega)]
    simp

/-- What is put of x is got as g x, whatever is behind. -/
def Fits {α : Type} (p : List Int → Res α) (f : α → List Int × Int) (g : α → α) (x : α) : Prop := (f x).2 = 0 → ∀ Z, p ((f x).1 ++ Z) = ⟨g x, (f x).1.length, 0⟩
/-- Cut anywhere, it ends too early. -/
def Cuts {α : Type} (p : List Int → Res α) (f : α → List Int × Int) (x : α) : Prop := (f x).2 = 0 → ∀ k, k < (f x).1.length → (p ((f x).1.take k)).err = 10

theorem fits_text (s : ByteArray) : Fits textR textB id s := by
  intro h Z
  by_cases hs : s.size ≤ 65535
  · simp only [textB, if_pos hs]
    rw [List.append_assoc]
    have := text_told_yes (s.size : Int) (sNums s ++ Z) s.size (by omega) (by omega) (by rw [List.length_append, sNums_length]; omega)
    rw [textR, this]
    simp only [List.length_append, putL_length, sNums_length]
    rw [List.take_append_of_le_length (by rw [sNums_length]; omega), List.take_of_length_le (by rw [sNums_length]; omega), strOfNums_sNums]
    rfl
  · simp [textB, hs] at h

theorem cuts_text (s : ByteArray) : Cuts textR textB s := by
  intro h k hk
  by_cases hs : s.size ≤ 65535
  · simp only [textB, if_pos hs] at hk ⊢
    rw [List.length_append, putL_length, sNums_length] at hk
    by_cases h2 : k < 2
    · unfold textR textA
      rw [if_pos (by rw [List.length_take, List.length_append, putL_length, sNums_length]; omega)]
    · have e : (putL (s.size : Int) 2 ++ sNums s).take k = putL (s.size : Int) 2 ++ (sNums s).take (k - 2) := by
        rw [List.take_append, putL_length, List.take_of_length_le (by rw [putL_length]; omega)]
      rw [e]
      have := text_told_no (s.size : Int) ((sNums s).take (k - 2)) (by omega) (by rw [List.length_take, sNums_length]; omega)
      unfold textR
      rw [this]
  · simp only [textB, if_neg hs] at hk
    simp at hk

theorem cat_zero {a b : List Int × Int} (h : (cat a b).2 = 0) : a.2 = 0 ∧ b.2 = 0 ∧ cat a b = (a.1 ++ b.1, 0) := by
  by_cases ha : a.2 = 0
  · by_cases hb : b.2 = 0
    · exact ⟨ha, hb, cat_ok ha hb⟩
    · rw [cat_no2 ha hb] at h; exact absurd h hb
  · rw [cat_no ha] at h; exact absurd h ha

/-- The items' bytes, one behind the other. -/
def bodyB {α : Type} (f : α → List Int × Int) (xs : List α) : List Int := xs.flatMap fun x => (f x).1

theorem bodyB_cons {α : Type} (f : α → List Int × Int) (x : α) (r : List α) : bodyB f (x :: r) = (f x).1 ++ bodyB f r := by rw [bodyB, bodyB, List.flatMap_cons]

theorem goB_zero {α : Type} (f : α → List Int × Int) : ∀ xs : List α, (goB f xs).2 = 0 → goB f xs = (bodyB f xs, 0) ∧ ∀ x ∈ xs, (f x).2 = 0
  | [], _ => ⟨rfl, fun x hx => by cases hx⟩
  | x :: r, h => by
    rw [goB] at h ⊢
    obtain ⟨h1, h2, h3⟩ := cat_zero h
    obtain ⟨h4, h5⟩ := goB_zero f r h2
    refine ⟨by rw [h3, h4, bodyB_cons], fun y hy => ?_⟩
    rcases List.mem_cons.1 hy with rfl | hy
    · exact h1
    · exact h5 y hy

theorem goB_of {α : Type} (f : α → List Int × Int) : ∀ xs : List α, (∀ x ∈ xs, (f x).2 = 0) → goB f xs = (bodyB f xs, 0)
  | [], _ => rfl
  | x :: r, h => by
    rw [goB, goB_of f r (fun y hy => h y (List.mem_cons_of_mem _ hy)), cat_ok (h x List.mem_cons_self) (by rfl), bodyB_cons]

theorem goR_body {α : Type} {p : List Int → Res α} {f : α → List Int × Int} {g : α → α} (xs : List α) (hf : ∀ x ∈ xs, Fits p f g x) (he : ∀ x ∈ xs, (f x).2 = 0) (Z : List Int) :
    ∀ (P : List Int) (acc : List α) (d : Nat), d = P.length → goR p (P ++ (bodyB f xs ++ Z)) xs.length d acc = ⟨acc ++ xs.map g, d + (bodyB f xs).length, 0⟩ := by
  induction xs with
  | nil => intro P acc d hd; simp [goR, bodyB]
  | cons x r ih =>
    intro P acc d hd
    have hx := hf x List.mem_cons_self (he x List.mem_cons_self) (bodyB f r ++ Z)
    have hb := bodyB_cons f x r
    have hdrop : (P ++ (bodyB f (x :: r) ++ Z)).drop d = (f x).1 ++ (bodyB f r ++ Z) := by rw [hd, List.drop_left, hb, List.append_assoc]
    have hih := ih (fun y hy => hf y (List.mem_cons_of_mem _ hy)) (fun y hy => he y (List.mem_cons_of_mem _ hy)) (P ++ (f x).1) (acc ++ [g x]) (d + (f x).1.length) (by rw [List.length_append, hd])
    rw [List.length_cons, goR, hdrop, hx, if_pos rfl]
    simp only
    rw [hb, List.append_assoc, ← List.append_assoc P, hih, List.length_append]
    simp only [List.append_assoc, List.singleton_append, Nat.add_assoc, List.map_cons]

theorem goR_cut {α : Type} {p : List Int → Res α} {f : α → List Int × Int} {g : α → α} (xs : List α) (hr : ∀ x ∈ xs, Fits p f g x) (hc : ∀ x ∈ xs, Cuts p f x) (he : ∀ x ∈ xs, (f x).2 = 0) :
    ∀ (P : List Int) (acc : List α) (d j : Nat), d = P.length → j < (bodyB f xs).length → (goR p (P ++ (bodyB f xs).take j) xs.length d acc).err = 10 := by
  induction xs with
  | nil => intro P acc d j hd hj; simp [bodyB] at hj
  | cons x r ih =>
    intro P acc d j hd hj
    have hb := bodyB_cons f x r
    have hx0 := he x List.mem_cons_self
    rw [hb, List.length_append] at hj
    rw [List.length_cons, goR]
    by_cases hlt : j < (f x).1.length
    · have e : (P ++ (bodyB f (x :: r)).take j).drop d = (f x).1.take j := by
        rw [hd, List.drop_left, hb, List.take_append_of_le_length (by omega)]
      have h10 := hc x List.mem_cons_self hx0 j hlt
      rw [e, if_neg (by rw [h10]; decide)]
      exact h10
    · have e : (bodyB f (x :: r)).take j = (f x).1 ++ (bodyB f r).take (j - (f x).1.length) := by
        rw [hb, List.take_append, List.take_of_length_le (by omega)]
      have e2 : (P ++ (bodyB f (x :: r)).take j).drop d = (f x).1 ++ (bodyB f r).take (j - (f x).1.length) := by
        rw [hd, List.drop_left, e]
      have h1 := hr x List.mem_cons_self hx0 ((bodyB f r).take (j - (f x).1.length))
      rw [e2, h1, if_pos (by rfl), e, ← List.append_assoc]
      exact ih (fun y hy => hr y (List.mem_cons_of_mem _ hy)) (fun y hy => hc y (List.mem_cons_of_mem _ hy)) (fun y hy => he y (List.mem_cons_of_mem _ hy)) (P ++ (f x).1) _ _ _ (by rw [List.length_append, hd]) (by omega)

theorem fits_field {q : List Int → Res Ty} {f : Ty → List Int × Int} {g : Ty → Ty} (x : ByteArray × Ty) (hq : Fits q f g x.2) : Fits (fieldR q) (fieldB f) (fun y => (y.1, g y.2)) x := by
  intro h Z
  obtain ⟨h1, h2, h3⟩ := cat_zero h
  have ht := fits_text x.1 h1 ((f x.2).1 ++ Z)
  have hy := hq h2 Z
  show fieldR q ((cat (textB x.1) (f x.2)).1 ++ Z) = _
  rw [h3]
  simp only
  rw [List.append_assoc, fieldR, ht]
  simp only
  rw [List.drop_left, hy, if_pos trivial, if_pos (by rfl)]
  simp only [id, fieldB, h3, List.length_append]

theorem cuts_field {q : List Int → Res Ty} {f : Ty → List Int × Int} (x : ByteArray × Ty) (hq : Cuts q f x.2) : Cuts (fieldR q) (fieldB f) x := by
  intro h k hk
  obtain ⟨h1, h2, h3⟩ := cat_zero h
  have e : fieldB f x = ((textB x.1).1 ++ (f x.2).1, 0) := h3
  rw [e] at hk ⊢
  simp only [List.length_append] at hk ⊢
  by_cases hlt : k < (textB x.1).1.length
  · have h10 := cuts_text x.1 h1 k hlt
    rw [List.take_append_of_le_length (by omega), fieldR, if_neg (by rw [h10]; decide)]
    exact h10
  · have e2 : ((textB x.1).1 ++ (f x.2).1).take k = (textB x.1).1 ++ (f x.2).1.take (k - (textB x.1).1.length) := by
      rw [List.take_append, List.take_of_length_le (by omega)]
    have ht := fits_text x.1 h1 ((f x.2).1.take (k - (textB x.1).1.length))
    have h10 := hq h2 (k - (textB x.1).1.length) (by omega)
    rw [e2, fieldR, ht]
    simp only
    rw [List.drop_left, if_pos trivial, if_neg (by rw [h10]; decide)]
    exact h10

/-- A type without what its bytes don't tell. -/
def norm : Nat → Ty → Ty
  | 0, t => t
  | n + 1, t => ⟨t.id, if t.id = 48 then t.space else ⟨#[]⟩, if t.id = 48 ∨ t.id = 0 then t.name else ⟨#[]⟩, t.names, t.kids.map (norm n)⟩

theorem hasB_id {id : Int} {k m : Nat} (h : hasB id k m = true) : 0 ≤ id ∧ id < 65536 := by
  by_cases h0 : id = 0
  · omega
  by_cases h1 : id = 32
  · omega
  by_cases h2 : id = 33
  · omega
  by_cases h3 : id = 34
  · omega
  by_cases h4 : id = 48
  · omega
  by_cases h5 : id = 49
  · omega
  rw [hasB_else h0 h1 h2 h3 h4 h5, Bool.and_eq_true, Bool.and_eq_true] at h
  have := h.1.1
  simp only [plainB, Bool.and_eq_true, decide_eq_true_eq] at this
  omega

/-- What stands behind the Id. -/
def restB (n : Nat) (t : Ty) : List Int × Int := if t.id = 0 then textB t.name else if t.id = 48 then cat (textB t.space) (cat (textB t.name) (cat (countB t.kids.length) (goB (fieldB (tyB n)) (t.names.zip t.kids))))
      else if t.id = 49 then cat (countB t.kids.length) (goB (tyB n) t.kids) else goB (tyB n) t.kids

theorem tyB_zero {n : Nat} {t : Ty} (h : (tyB (n + 1) t).2 = 0) : hasB t.id t.kids.length t.names.length = true ∧ (restB n t).2 = 0 ∧ tyB (n + 1) t = (putL t.id 2 ++ (restB n t).1, 0) := by
  rw [tyB] at h ⊢
  by_cases hh : hasB t.id t.kids.length t.names.length = false
  · rw [if_pos hh] at h; exact absurd h (by decide)
  · rw [if_neg hh] at h ⊢
    obtain ⟨_, h2, h3⟩ := cat_zero h
    exact ⟨by simpa using hh, h2, h3⟩

theorem count_zero {n : Nat} (h : (countB n).2 = 0) : n ≤ 65535 ∧ countB n = (putL n 2, 0) := by
  by_cases hn : n ≤ 65535
  · exact ⟨hn, by rw [countB, if_pos hn]⟩
  · rw [countB, if_neg hn] at h; exact absurd h (by decide)



/-- The Id's own bytes, read. -/
theorem tyR_head {f : Nat} {id : Int} (h0 : 0 ≤ id) (h1 : id < 65536) (Z : List Int) : tyR (f + 1) (putL id 2 ++ Z) =
    if id = 0 then (if (textR Z).err = 0 then ⟨⟨0, ⟨#[]⟩, (textR Z).val, [], []⟩, 2 + (textR Z).done, 0⟩ else ⟨tyNil, 0, (textR Z).err⟩)
    else if id = 48 then (if (udtR (tyR f) Z).err = 0 then ⟨(udtR (tyR f) Z).val, 2 + (udtR (tyR f) Z).done, 0⟩ else ⟨tyNil, 0, (udtR (tyR f) Z).err⟩)
    else if id = 32 ∨ id = 34 ∨ id = 33 ∨ id = 49 then
      (if (if id = 49 then tupleR (tyR f) Z else goR (tyR f) Z (if id = 33 then 2 else 1) 0 []).err = 0 then ⟨⟨id, ⟨#[]⟩, ⟨#[]⟩, [], (if id = 49 then tupleR (tyR f) Z else goR (tyR f) Z (if id = 33 then 2 else 1) 0 []).val⟩, 2 + (if id = 49 then tupleR (tyR f) Z else goR (tyR f) Z (if id = 33 then 2 else 1) 0 []).done, 0⟩ else ⟨tyNil, 0, (if id = 49 then tupleR (tyR f) Z else goR (tyR f) Z (if id = 33 then 2 else 1) 0 []).err⟩)
    else if plainB id = true then ⟨⟨id, ⟨#[]⟩, ⟨#[]⟩, [], []⟩, 2, 0⟩ else ⟨tyNil, 0, 11⟩ := by
  rw [tyR, if_neg (by rw [told_len]; omega)]
  simp only [told_text id Z h0, told_front, show id % 65536 = id by omega]

theorem udtR_at (q : List Int → Res Ty) (zs : List Int) {A C : Res ByteArray} (hA : A = textR zs) (hC : C = textR (zs.drop A.done)) (h1 : A.err = 0) (h2 : C.err = 0) : udtR q zs =
    if (zs.drop (A.done + C.done)).length < 2 then ⟨tyNil, 0, 10⟩ else
      if (goR (fieldR q) zs (numTo (zs.drop (A.done + C.done)) 2).toNat (A.done + C.done + 2) []).err = 0 then
        ⟨⟨48, A.val, C.val, (goR (fieldR q) zs (numTo (zs.drop (A.done + C.done)) 2).toNat (A.done + C.done + 2) []).val.map (·.1), (goR (fieldR q) zs (numTo (zs.drop (A.done + C.done)) 2).toNat (A.done + C.done + 2) []).val.map (·.2)⟩, (goR (fieldR q) zs (numTo (zs.drop (A.done + C.done)) 2).toNat (A.done + C.done + 2) []).done, 0⟩
      else ⟨tyNil, 0, (goR (fieldR q) zs (numTo (zs.drop (A.done + C.done)) 2).toNat (A.done + C.done + 2) []).err⟩ := by
  rw [udtR, ← hA, ← hC, if_pos h1, if_pos h2]

theorem nil_of_len {α : Type} {l : List α} (h : l.length = 0) : l = [] := List.eq_nil_of_length_eq_zero h

/-- What the number of kids and names is, by Id. -/
theorem hasB_cases {id : Int} {k m : Nat} (h : hasB id k m = true) : (id = 0 ∧ k = 0 ∧ m = 0) ∨ (id = 48 ∧ k = m) ∨ (id = 49 ∧ m = 0) ∨ ((id = 32 ∨ id = 34) ∧ k = 1 ∧ m = 0) ∨ (id = 33 ∧ k = 2 ∧ m = 0) ∨ (plainB id = true ∧ k = 0 ∧ m = 0 ∧ id ≠ 0 ∧ id ≠ 48 ∧ id ≠ 49 ∧ id ≠ 32 ∧ id ≠ 34 ∧ id ≠ 33) := by
  by_cases h0 : id = 0
  · rw [hasB, if_pos h0, Bool.and_eq_true, decide_eq_true_eq, decide_eq_true_eq] at h
    exact .inl ⟨h0, h.1, h.2⟩
  by_cases h1 : id = 32 ∨ id = 34
  · rw [hasB, if_neg h0, if_pos h1, Bool.and_eq_true, decide_eq_true_eq, decide_eq_true_eq] at h
    exact .inr (.inr (.inr (.inl ⟨h1, h.1, h.2⟩)))
  by_cases h2 : id = 33
  · rw [hasB, if_neg h0, if_neg h1, if_pos h2, Bool.and_eq_true, decide_eq_true_eq, decide_eq_true_eq] at h
    exact .inr (.inr (.inr (.inr (.inl ⟨h2, h.1, h.2⟩))))
  by_cases h4 : id = 48
  · rw [hasB, if_neg h0, if_neg h1, if_neg h2, if_pos h4, decide_eq_true_eq] at h
    exact .inr (.inl ⟨h4, h⟩)
  by_cases h5 : id = 49
  · rw [hasB, if_neg h0, if_neg h1, if_neg h2, if_neg h4, if_pos h5, decide_eq_true_eq] at h
    exact .inr (.inr (.inl ⟨h5, h⟩))
  · rw [hasB_else h0 (by omega) h2 (by omega) h4 h5, Bool.and_eq_true, Bool.and_eq_true, decide_eq_true_eq, decide_eq_true_eq] at h
    exact .inr (.inr (.inr (.inr (.inr ⟨h.1.1, h.1.2, h.2, h0, h4, h5, by omega, by omega, h2⟩))))

theorem fits_tuple {n f : Nat} {t : Ty} (ihk : ∀ k ∈ t.kids, Fits (tyR f) (tyB n) (norm n) k) (h : (cat (countB t.kids.length) (goB (tyB n) t.kids)).2 = 0) (Z : List Int) :
    tupleR (tyR f) ((cat (countB t.kids.length) (goB (tyB n) t.kids)).1 ++ Z) = ⟨t.kids.map (norm n), (cat (countB t.kids.length) (goB (tyB n) t.kids)).1.length, 0⟩ := by
  obtain ⟨h1, h2, h3⟩ := cat_zero h
  obtain ⟨h4, h5⟩ := count_zero h1
  obtain ⟨h6, h7⟩ := goB_zero _ _ h2
  rw [h3, h5, h6]
  simp only
  rw [List.append_assoc, tupleR, if_neg (by rw [told_len]; omega), told_text _ _ (by omega), show ((t.kids.length : Int) % 65536).toNat = t.kids.length by omega,
    goR_body t.kids ihk h7 Z _ [] 2 (putL_length _ _).symm, List.nil_append, List.length_append, putL_length]

theorem fits_udt {n f : Nat} {t : Ty} (ihk : ∀ k ∈ t.kids, Fits (tyR f) (tyB n) (norm n) k) (hl : t.kids.length = t.names.length) {B : List Int × Int} (hB : B = cat (textB t.space) (cat (textB t.name) (cat (countB t.kids.length) (goB (fieldB (tyB n)) (t.names.zip t.kids))))) (h : B.2 = 0) (Z : List Int) :
    udtR (tyR f) (B.1 ++ Z) = ⟨⟨48, t.space, t.name, t.names, t.kids.map (norm n)⟩, B.1.length, 0⟩ := by
  rw [hB] at h
  obtain ⟨h1, h2, h3⟩ := cat_zero h
  obtain ⟨h4, h5, h6⟩ := cat_zero h2
  obtain ⟨h7, h8, h9⟩ := cat_zero h5
  obtain ⟨g1, g2⟩ := count_zero h7
  obtain ⟨g3, g4⟩ := goB_zero _ _ h8
  rw [h3, h6, h9, g2, g3] at hB
  simp only at hB
  subst hB
  have hzl : (t.names.zip t.kids).length = t.kids.length := by rw [List.length_zip]; omega
  have hfk : ∀ y ∈ t.names.zip t.kids, Fits (fieldR (tyR f)) (fieldB (tyB n)) (fun y => (y.1, norm n y.2)) y := fun y hy => fits_field y (ihk y.2 (List.of_mem_zip (a := y.1) (b := y.2) hy).2)
  generalize hS : (textB t.space).1 = S at *
  generalize hM : (textB t.name).1 = M at *
  generalize hD : bodyB (fieldB (tyB n)) (t.names.zip t.kids) = D at *
  have ht1 := fits_text t.space h1 (M ++ (putL t.kids.length 2 ++ (D ++ Z)))
  have ht2 := fits_text t.name h4 (putL t.kids.length 2 ++ (D ++ Z))
  rw [hS] at ht1
  rw [hM] at ht2
  have e0 : (S ++ (M ++ (putL t.kids.length 2 ++ D))) ++ Z = S ++ (M ++ (putL t.kids.length 2 ++ (D ++ Z))) := by simp only [List.append_assoc]
  rw [e0, udtR_at (tyR f) _ ht1.symm (C := ⟨t.name, M.length, 0⟩) (by simp only; rw [List.drop_left, ht2]; rfl) rfl rfl]
  simp only
  have e1 : (S ++ (M ++ (putL t.kids.length 2 ++ (D ++ Z)))).drop (S.length + M.length) = putL t.kids.length 2 ++ (D ++ Z) := by
    rw [← List.drop_drop, List.drop_left, List.drop_left]
  have e2 : S ++ (M ++ (putL t.kids.length 2 ++ (D ++ Z))) = (S ++ (M ++ putL t.kids.length 2)) ++ (D ++ Z) := by simp only [List.append_assoc]
  rw [e1, if_neg (by rw [told_len]; omega), told_text _ _ (by omega), show ((t.kids.length : Int) % 65536).toNat = (t.names.zip t.kids).length by omega, e2]
  have hg := goR_body (t.names.zip t.kids) hfk g4 Z (S ++ (M ++ putL t.kids.length 2)) [] (S.length + M.length + 2) (by simp only [List.length_append, putL_length]; omega)
  rw [hD] at hg
  rw [hg, if_pos (by rfl)]
  simp only [List.nil_append, List.map_map]
  congr 1
  · congr 1
    · have : ((fun x => x.fst) ∘ fun y : ByteArray × Ty => (y.1, norm n y.2)) = Prod.fst := rfl
      rw [this, List.map_fst_zip (by omega)]
    · have : ((fun x => x.snd) ∘ fun y : ByteArray × Ty => (y.1, norm n y.2)) = (norm n) ∘ Prod.snd := rfl
      rw [this, ← List.map_map, List.map_snd_zip (by omega)]
  · simp only [List.length_append, putL_length]; omega

theorem fits_ty : ∀ (n f : Nat) (t : Ty), deepB f t = false → Fits (tyR f) (tyB n) (norm n) t
  | 0, f, t, _ => fun h => absurd (show (1 : Int) = 0 from h) (by decide)
  | n + 1, 0, t, hd => by cases hd
  | n + 1, f + 1, t, hd => by
    intro h Z
    obtain ⟨hh, hr, he⟩ := tyB_zero h
    have hid := hasB_id hh
    have ihk : ∀ k ∈ t.kids, Fits (tyR f) (tyB n) (norm n) k := fun k hk => fits_ty n f k (deepB_kids hd k hk)
    rw [he]
    simp only
    rw [List.append_assoc, tyR_head hid.1 hid.2, told_len, norm]
    rcases hasB_cases hh with ⟨c, ck, cm⟩ | ⟨c, ck⟩ | ⟨c, cm⟩ | ⟨c, ck, cm⟩ | ⟨c, ck, cm⟩ | ⟨cp, ck, cm, n0, n48, n49, n32, n34, n33⟩
    · have e : restB n t = textB t.name := by rw [restB, if_pos c]
      rw [e] at hr ⊢
      rw [if_pos c, fits_text t.name hr Z, if_pos (by rfl), nil_of_len ck, nil_of_len cm, if_neg (by omega), if_pos (.inr c), c]
      rfl
    · have e : restB n t = cat (textB t.space) (cat (textB t.name) (cat (countB t.kids.length) (goB (fieldB (tyB n)) (t.names.zip t.kids)))) := by rw [restB, if_neg (by omega), if_pos c]
      rw [if_neg (by omega), if_pos c, fits_udt ihk ck e hr Z, if_pos (by rfl), if_pos c, if_pos (.inl c), c]
    · have e : restB n t = cat (countB t.kids.length) (goB (tyB n) t.kids) := by rw [restB, if_neg (by omega), if_neg (by omega), if_pos c]
      rw [e] at hr ⊢
      simp only [if_neg (show ¬ t.id = 0 by omega), if_neg (show ¬ t.id = 48 by omega), if_pos (show t.id = 32 ∨ t.id = 34 ∨ t.id = 33 ∨ t.id = 49 by omega), if_pos c, fits_tuple ihk hr Z, if_true, if_neg (show ¬ (t.id = 48 ∨ t.id = 0) by omega), nil_of_len cm]
    · have e : restB n t = goB (tyB n) t.kids := by rw [restB, if_neg (by omega), if_neg (by omega), if_neg (by omega)]
      rw [e] at hr ⊢
      obtain ⟨h6, h7⟩ := goB_zero _ _ hr
      have hg := goR_body t.kids ihk h7 Z [] [] 0 rfl
      rw [ck, List.nil_append, List.nil_append, Nat.zero_add] at hg
      rw [h6]
      simp only [if_neg (show ¬ t.id = 0 by omega), if_neg (show ¬ t.id = 48 by omega), if_pos (show t.id = 32 ∨ t.id = 34 ∨ t.id = 33 ∨ t.id = 49 by omega), if_neg (show ¬ t.id = 49 by omega), if_neg (show ¬ t.id = 33 by omega), hg, if_true, if_neg (show ¬ (t.id = 48 ∨ t.id = 0) by omega), nil_of_len cm]
    · have e : restB n t = goB (tyB n) t.kids := by rw [restB, if_neg (by omega), if_neg (by omega), if_neg (by omega)]
      rw [e] at hr ⊢
      obtain ⟨h6, h7⟩ := goB_zero _ _ hr
      have hg := goR_body t.kids ihk h7 Z [] [] 0 rfl
      rw [ck, List.nil_append, List.nil_append, Nat.zero_add] at hg
      rw [h6]
      simp only [if_neg (show ¬ t.id = 0 by omega), if_neg (show ¬ t.id = 48 by omega), if_pos (show t.id = 32 ∨ t.id = 34 ∨ t.id = 33 ∨ t.id = 49 by omega), if_neg (show ¬ t.id = 49 by omega), if_pos c, hg, if_true, if_neg (show ¬ (t.id = 48 ∨ t.id = 0) by omega), nil_of_len cm]
    · have hk0 := nil_of_len ck
      have e : restB n t = ([], 0) := by rw [restB, if_neg n0, if_neg n48, if_neg n49, hk0]; rfl
      rw [e]
      simp only [if_neg n0, if_neg n48, if_neg (show ¬ (t.id = 32 ∨ t.id = 34 ∨ t.id = 33 ∨ t.id = 49) by omega), if_pos cp, if_neg (show ¬ (t.id = 48 ∨ t.id = 0) by omega), nil_of_len cm, hk0, List.map_nil, List.length_nil]
end Go.Proofs.YtnapeecmlkkolaaDoor
