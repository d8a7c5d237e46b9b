/-
  Ints and values, put and got (carried over).
-/
import Derived.Test.YtnapeecmlkkolaaDoorOne
import Derived.Deep.RegionHeld3
import Derived.Laws.EntriesVeiled
namespace Go.Proofs.YtnapeecmlkkolaaDoor
open Go.RowKit
set_option maxRecDepth 100000
set_option linter.unusedVariables false
set_option linter.unusedSimpArgs false

set_option maxHeartbeats 400000 in
theorem signed_yes (x : Int) (n : Nat) (w : World) (h1 : 1 ≤ n) (h2 : n ≤ 8) :
    Calls Tryd.prog 74 #[.int .u64 x, .int .i64 n] w fun e w' => e = .returned (.int .i64 (sgn x n)) ∧ w' = w := by
  have hb := fitsB_yes h1 h2
  have HE : Hid _ := signed_eq x n h1 h2
  go_enter Tryd.func74, Tryd.ntmps74
  go_wp2_with (go_at_call 86; refine (fits_any _ _).mono ?_; rintro e w' ⟨rfl, rfl⟩)
  go_ret
  rw [← HE.out]
  exact ⟨rfl, rfl⟩

set_option maxHeartbeats 400000 in
theorem signed_no (x n : Int) (w : World) (h : n < 1 ∨ 8 < n) :
    Calls Tryd.prog 74 #[.int .u64 x, .int .i64 n] w fun e w' => e = .returned (.int .i64 0) ∧ w' = w := by
  have hb := fitsB_no h
  clear h
  go_enter Tryd.func74, Tryd.ntmps74
  go_wp2_with (go_at_call 86; refine (fits_any _ _).mono ?_; rintro e w' ⟨rfl, rfl⟩)
  go_ret
  exact ⟨rfl, rfl⟩

/-- An int with its sign, of four bytes. -/
def int4 (zs : List Int) : Int := sgn (numTo zs 4) 4

theorem int4_bounds (zs : List Int) : -2147483648 ≤ int4 zs ∧ int4 zs ≤ 2147483647 := by
  unfold int4 sgn
  generalize numTo zs 4 = x
  simp only [show 8 * 4 - 1 = 31 from rfl, show 8 * 4 = 32 from rfl]
  split <;> omega

theorem sgn0 : sgn 0 4 = 0 := by decide

set_option maxHeartbeats 400000 in
/-- getInt, too few bytes. -/
theorem getInt_short (a : Option Addr) (len cap : Nat) (w : World) (hl : len < 4) :
    Calls Tryd.prog 67 #[.slice a len cap] w fun e w' => e = .returned (.tuple #[.int .i64 0, .slice none 0 0, .int .i64 10]) ∧ w' = w := by
  go_enter Tryd.func67, Tryd.ntmps67
  go_wp2_with fail
  refine (bget_short a len cap 4 _ (by omega) (by omega) hl _ rfl).mono ?_
  rintro e w1 ⟨rfl, rfl⟩
  go_wp2_with fail
  refine (signed_yes 0 4 _ (by omega) (by omega)).mono ?_
  rintro e w2 ⟨rfl, rfl⟩
  rw [sgn0]
  go_wp2_with fail
  go_ret3
  exact ⟨rfl, rfl⟩

set_option maxHeartbeats 400000 in
theorem getInt_yes {w : World} {b off len cap : Nat} {zs : List Int} (h : BRow w b off len cap zs) (hl : 4 ≤ len) :
    Calls Tryd.prog 67 #[.slice (some ⟨b, off, none⟩) len cap] w fun e w' => ∃ off', e = .returned (.tuple #[.int .i64 (int4 zs), .slice (some ⟨b, off', none⟩) (len - 4) (cap - 4), .int .i64 0]) ∧
      BRow w' b off' (len - 4) (cap - 4) (zs.drop 4) ∧ Below w.heap.size w w' := by
  have H : Hid _ := h
  clear h
  go_enter Tryd.func67, Tryd.ntmps67
  go_wp2_with fail
  refine (bget H.out 4 (by omega) (by omega) hl _ rfl).mono ?_
  rintro e w1 ⟨off', rfl, hR, hB⟩
  go_wp2_with fail
  refine (signed_yes _ 4 _ (by omega) (by omega)).mono ?_
  rintro e w2 ⟨rfl, rfl⟩
  have HE : Hid (sgn (numTo zs 4) 4 = int4 zs) := rfl
  generalize sgn (numTo zs 4) 4 = z at *
  go_wp2_with fail
  go_ret3
  rw [← HE.out]
  exact ⟨off', rfl, hR, hB⟩

set_option maxHeartbeats 400000 in
theorem putInt_any (x : Int) (w : World) :
    Calls Tryd.prog 81 #[.int .i64 x] w fun e w' => ∃ v, e = .returned v ∧ OwnB w' w.heap.size v 4 (putL (IntKind.u64.wrap x) 4) ∧ Below w.heap.size w w' := by
  go_enter Tryd.func81, Tryd.ntmps81
  go_wp2_with fail
  refine (put_own (IntKind.u64.wrap x) 4 _ (by omega) (by omega) (by rw [IntKind.wrap_u64]; omega) _ rfl).mono ?_
  rintro e w1 ⟨v, rfl, ho, hB⟩
  have HO : Hid _ := ho
  clear ho
  go_wp2_with fail
  go_ret
  exact ⟨v, rfl, HO.out, hB⟩

set_option maxHeartbeats 400000 in
theorem rlong_yes (s : ByteArray) (w : World) (hs : s.size ≤ 140737488351232) :
    Calls Tryd.prog 64 #[.string s] w fun e w' => ∃ v, e = .returned v ∧ OwnB w' w.heap.size v (4 + s.size) (putL s.size 4 ++ sNums s) ∧ Below w.heap.size w w' := by
  obtain ⟨i0, hi, hz0, hz1, hz2⟩ := info_parts Tryd.info5
  have HI : Hid (Tryd.prog.info? 5 = some i0 ∧ i0.zero = some (.int .u8 0) ∧ i0.size = 1 ∧ i0.bytes = 1) := ⟨hi, hz0, hz1, hz2⟩
  clear hi hz0 hz1 hz2
  go_enter Tryd.func64, Tryd.ntmps64
  go_wp2_with fail
  refine (rput_own s.size 4 _ (by omega) (by omega) (by omega) (by omega) _ rfl).mono ?_
  rintro e w1 ⟨v, rfl, ho, hB⟩
  have HO : Hid _ := ho
  clear ho
  go_wp2_with (at_builtin; refine Lib.wpList_append_own_string _ rfl (.tmp 8) (.tmp 9) 22 9 rfl w.heap.size 5 i0 Tryd.underlying22 Tryd.underlying9 HI.out.1 HI.out.2.1 HI.out.2.2.1 HI.out.2.2.2 _ _ _ rfl HO.out s rfl ?c1 ?c2 ?c3 ?_)
  case c1 => unfold maxLen; omega
  case c2 => omega
  case c3 => exact hB.size
  intro v2 w2 ho2 hg _
  have HO2 : Hid _ := OwnB.join ho2 (sNums_cells s)
  have hB2 : Below w.heap.size w w2 := hB.grown hg hB.size (OwnB.block HO.out)
  clear ho2 hg
  go_wp2_with fail
  go_ret
  exact ⟨v2, rfl, HO2.out, hB2⟩

theorem BRow.set {w : World} {b off len cap : Nat} {zs : List Int} (h : BRow w b off len cap zs) {g k : Nat} (hg : g ≠ b) (v : Value) : BRow (w.setCell ⟨g, k, none⟩ v) b off len cap zs :=
  ⟨h.len_eq, h.le, h.cap_le, fun hl => by simpa using h.lt hl, fun i hi => (World.cell?_setCell_other (w := w) (a := ⟨g, k, none⟩) (b := ⟨b, off + i, none⟩) (v := v) (by intro e; cases e; exact hg rfl)).trans (h.cell i hi), h.rng⟩

theorem below_alloc2 {w w1 : World} {o : Obj} (hB : Below (w.alloc o).heap.size (w.alloc o) w1) (u v : Value) : Below w.heap.size w ((w1.setCell ⟨w.heap.size, 0, none⟩ u).setCell ⟨w.heap.size, 1, none⟩ v) :=
  (((below_one w o).trans (hB.mono (by simp))).setCell (Nat.le_refl _) _).setCell (Nat.le_refl _) _

theorem below_on (w1 : World) (s : Nat) (u v : Value) : Below s w1 ((w1.setCell ⟨s, 0, none⟩ u).setCell ⟨s, 1, none⟩ v) :=
  ((Below.refl s w1).setCell (p := ⟨s, 0, none⟩) (Nat.le_refl _) u).setCell (p := ⟨s, 1, none⟩) (Nat.le_refl _) v

set_option maxHeartbeats 400000 in
theorem getValue_short0 (a : Option Addr) (len cap : Nat) (w : World) (hl : len < 4) :
    Calls Tryd.prog 44 #[.slice a len cap] w fun e w' => e = .returned (.tuple #[.agg #[.int .i64 0, .slice none 0 0], .slice none 0 0, .int .i64 10]) ∧ Below w.heap.size w w' := by
  go_enter Tryd.func44, Tryd.ntmps44
  go_wp2_with fail
  refine (getInt_short a len cap _ hl).mono ?_
  rintro e w1 ⟨rfl, rfl⟩
  go_wp2_with fail
  exact bodyPost_ret (v := .tuple #[.agg #[.int .i64 0, .slice none 0 0], .slice none 0 0, .int .i64 10]) (by simp [results, Tryd.results44, go_sem]) rfl ⟨rfl, below_one _ _⟩

set_option maxHeartbeats 400000 in
theorem getValue_form {w : World} {b off len cap : Nat} {zs : List Int} (h : BRow w b off len cap zs) (hl : 4 ≤ len) (hn : int4 zs < -2) :
    Calls Tryd.prog 44 #[.slice (some ⟨b, off, none⟩) len cap] w fun e w' => e = .returned (.tuple #[.agg #[.int .i64 0, .slice none 0 0], .slice none 0 0, .int .i64 11]) ∧ Below w.heap.size w w' := by
  have H : Hid _ := h
  clear h
  go_enter Tryd.func44, Tryd.ntmps44
  go_wp2_with fail
  refine (getInt_yes (H.out.old (below_one _ _)) hl).mono ?_
  rintro e w1 ⟨off', rfl, hR, hB⟩
  obtain ⟨hc, hf⟩ := bcell hB
  have hs : w.heap.size < w1.heap.size := by have := hB.size; simp at this; omega
  go_wp2_with fail
  exact bodyPost_ret (v := .tuple #[.agg #[.int .i64 0, .slice none 0 0], .slice none 0 0, .int .i64 11]) (by simp [results, Tryd.results44, go_sem, hc, hs]) rfl ⟨rfl, below_alloc2 hB _ _⟩

set_option maxHeartbeats 400000 in
theorem getValue_unset {w : World} {b off len cap : Nat} {zs : List Int} (h : BRow w b off len cap zs) (hl : 4 ≤ len) (hn : int4 zs = -2) :
    Calls Tryd.prog 44 #[.slice (some ⟨b, off, none⟩) len cap] w fun e w' => ∃ off', e = .returned (.tuple #[.agg #[.int .i64 1, .slice none 0 0], .slice (some ⟨b, off', none⟩) (len - 4) (cap - 4), .int .i64 0]) ∧
      BRow w' b off' (len - 4) (cap - 4) (zs.drop 4) ∧ Below w.heap.size w w' := by
  have H : Hid _ := h
  clear h
  go_enter Tryd.func44, Tryd.ntmps44
  go_wp2_with fail
  refine (getInt_yes (H.out.old (below_one _ _)) hl).mono ?_
  rintro e w1 ⟨off', rfl, hR, hB⟩
  obtain ⟨hc, hf⟩ := bcell hB
  have hs : w.heap.size < w1.heap.size := by have := hB.size; simp at this; omega
  rw [hn]
  clear hn
  go_wp2_with fail
  exact bodyPost_ret (v := .tuple #[.agg #[.int .i64 1, .slice none 0 0], .slice (some ⟨b, off', none⟩) (len - 4) (cap - 4), .int .i64 0]) (by simp [results, Tryd.results44, go_sem, hc, hs]) rfl
    ⟨off', rfl, hR.below (below_on _ _ _ _) (fun _ => H.out.lt (by omega)), below_alloc2 hB _ _⟩

set_option maxHeartbeats 400000 in
theorem getValue_null {w : World} {b off len cap : Nat} {zs : List Int} (h : BRow w b off len cap zs) (hl : 4 ≤ len) (hn : int4 zs = -1) :
    Calls Tryd.prog 44 #[.slice (some ⟨b, off, none⟩) len cap] w fun e w' => ∃ off', e = .returned (.tuple #[.agg #[.int .i64 0, .slice none 0 0], .slice (some ⟨b, off', none⟩) (len - 4) (cap - 4), .int .i64 0]) ∧
      BRow w' b off' (len - 4) (cap - 4) (zs.drop 4) ∧ Below w.heap.size w w' := by
  have H : Hid _ := h
  clear h
  go_enter Tryd.func44, Tryd.ntmps44
  go_wp2_with fail
  refine (getInt_yes (H.out.old (below_one _ _)) hl).mono ?_
  rintro e w1 ⟨off', rfl, hR, hB⟩
  obtain ⟨hc, hf⟩ := bcell hB
  have hs : w.heap.size < w1.heap.size := by have := hB.size; simp at this; omega
  rw [hn]
  clear hn
  go_wp2_with fail
  exact bodyPost_ret (v := .tuple #[.agg #[.int .i64 0, .slice none 0 0], .slice (some ⟨b, off', none⟩) (len - 4) (cap - 4), .int .i64 0]) (by simp [results, Tryd.results44, go_sem, hc, hs]) rfl
    ⟨off', rfl, hR.below (below_on _ _ _ _) (fun _ => H.out.lt (by omega)), below_alloc2 hB _ _⟩

theorem int4_tests {zs : List Int} (h : 0 ≤ int4 zs) : decide (int4 zs < -2) = false ∧ (int4 zs == -2) = false ∧ (int4 zs == -1) = false := by
  refine ⟨by simp; omega, by simp; omega, by simp; omega⟩

set_option maxHeartbeats 400000 in
theorem getValue_short {w : World} {b off len cap : Nat} {zs : List Int} (h : BRow w b off len cap zs) (hl : 4 ≤ len) (hn : ((len - 4 : Nat) : Int) < int4 zs) :
    Calls Tryd.prog 44 #[.slice (some ⟨b, off, none⟩) len cap] w fun e w' => e = .returned (.tuple #[.agg #[.int .i64 0, .slice none 0 0], .slice none 0 0, .int .i64 10]) ∧ Below w.heap.size w w' := by
  have H : Hid _ := h
  have hlm : len ≤ maxLen := Nat.le_trans h.le h.cap_le
  have HN : Hid _ := hn
  have HLM : Hid (len - 4 ≤ maxLen) := (by omega : len - 4 ≤ maxLen)
  have h0 : 0 ≤ int4 zs := by omega
  have hbd := (int4_bounds zs).2
  obtain ⟨ht1, ht2, ht3⟩ := int4_tests h0
  clear h hn hlm
  go_enter Tryd.func44, Tryd.ntmps44
  go_wp2_with fail
  refine (getInt_yes (H.out.old (below_one _ _)) hl).mono ?_
  rintro e w1 ⟨off', rfl, hR, hB⟩
  obtain ⟨hc, hf⟩ := bcell hB
  have hs : w.heap.size < w1.heap.size := by have := hB.size; simp at this; omega
  have HR : Hid _ := hR
  clear hR
  go_wp2_with fail
  refine (btake_short _ _ _ _ _ HLM.out HN.out).mono ?_
  rintro e w2 ⟨rfl, rfl⟩
  go_wp2_with fail
  exact bodyPost_ret (v := .tuple #[.agg #[.int .i64 0, .slice none 0 0], .slice none 0 0, .int .i64 10]) (by simp [results, Tryd.results44, go_sem, hc, hs]) rfl ⟨rfl, below_alloc2 hB _ _⟩

set_option maxHeartbeats 400000 in
theorem getValue_set {w : World} {b off len cap : Nat} {zs : List Int} (h : BRow w b off len cap zs) (hsm : len ≤ 140737488351232) (n : Nat) (hl : 4 + n ≤ len) (hn : int4 zs = n) :
    Calls Tryd.prog 44 #[.slice (some ⟨b, off, none⟩) len cap] w fun e w' => ∃ off' g, w.heap.size ≤ g ∧ g < w'.heap.size ∧ e = .returned (.tuple #[.agg #[.int .i64 2, .slice (some ⟨g, 0, none⟩) n n], .slice (some ⟨b, off', none⟩) (len - 4 - n) (cap - 4 - n), .int .i64 0]) ∧
      BRow w' g 0 n n ((zs.drop 4).take n) ∧ BRow w' b off' (len - 4 - n) (cap - 4 - n) (zs.drop (4 + n)) ∧ Below w.heap.size w w' := by
  have H : Hid _ := h
  have HN : Hid _ := hn
  have h0 : 0 ≤ int4 zs := by omega
  have hbd := (int4_bounds zs).2
  obtain ⟨ht1, ht2, ht3⟩ := int4_tests h0
  clear h hn
  go_enter Tryd.func44, Tryd.ntmps44
  go_wp2_with fail
  refine (getInt_yes (H.out.old (below_one _ _)) (by omega)).mono ?_
  rintro e w1 ⟨off', rfl, hR, hB⟩
  have hs : w.heap.size < w1.heap.size := by have := hB.size; simp at this; omega
  have HR : Hid _ := hR
  clear hR
  go_wp2_with fail
  refine (btake HR.out n (by omega) (by omega) _ HN.out).mono ?_
  rintro e w2 ⟨off2, rfl, hX, hR2, hB2, hs3⟩
  have hB3 := hB.trans (hB2.mono hB.size)
  obtain ⟨hc, hf⟩ := bcell hB3
  have hs2 : w.heap.size < w2.heap.size := by have := hB3.size; simp at this; omega
  rw [List.drop_drop] at hR2
  have HR2 : Hid _ := hR2
  have HX : Hid _ := hX
  clear hX hR2
  go_wp2_with fail
  exact bodyPost_ret (v := .tuple #[.agg #[.int .i64 2, .slice (some ⟨w1.heap.size, 0, none⟩) n n], .slice (some ⟨b, off2, none⟩) (len - 4 - n) (cap - 4 - n), .int .i64 0]) (by simp [results, Tryd.results44, go_sem, hc, hs2]) rfl
    ⟨off2, w1.heap.size, by omega, by simpa using hs3, rfl, (HX.out.set (by omega) _).set (by omega) _, HR2.out.below (below_on _ _ _ _) (fun _ => H.out.lt (by omega)), below_alloc2 hB3 _ _⟩

theorem u64_m1 : putL (IntKind.u64.wrap (-1)) 4 = [255, 255, 255, 255] := by decide +kernel

theorem u64_m2 : putL (IntKind.u64.wrap (-2)) 4 = [255, 255, 255, 254] := by decide +kernel

set_option maxHeartbeats 400000 in
theorem value_null (a : Option Addr) (len cap : Nat) (w : World) :
    Calls Tryd.prog 62 #[.agg #[.int .i64 0, .slice a len cap]] w fun e w' => ∃ v, e = .returned (.tuple #[v, .int .i64 0]) ∧ OwnB w' w.heap.size v 4 [255, 255, 255, 255] ∧ Below w.heap.size w w' := by
  go_enter Tryd.func62, Tryd.ntmps62
  go_wp2_with fail
  refine (putInt_any (-1) _).mono ?_
  rintro e w1 ⟨v, rfl, ho, hB⟩
  rw [u64_m1] at ho
  have HO : Hid (OwnB _ _ _ _ _) := ho
  clear ho
  go_wp2_with fail
  go_ret2
  exact ⟨v, rfl, HO.out.mono (by simp), (below_one _ _).trans (hB.mono (by simp))⟩

set_option maxHeartbeats 400000 in
theorem value_unset (a : Option Addr) (len cap : Nat) (w : World) :
    Calls Tryd.prog 62 #[.agg #[.int .i64 1, .slice a len cap]] w fun e w' => ∃ v, e = .returned (.tuple #[v, .int .i64 0]) ∧ OwnB w' w.heap.size v 4 [255, 255, 255, 254] ∧ Below w.heap.size w w' := by
  go_enter Tryd.func62, Tryd.ntmps62
  go_wp2_with fail
  refine (putInt_any (-2) _).mono ?_
  rintro e w1 ⟨v, rfl, ho, hB⟩
  rw [u64_m2] at ho
  have HO : Hid (OwnB _ _ _ _ _) := ho
  clear ho
  go_wp2_with fail
  go_ret2
  exact ⟨v, rfl, HO.out.mono (by simp), (below_one _ _).trans (hB.mono (by simp))⟩

set_option maxHeartbeats 400000 in
theorem value_none (k : Int) (a : Option Addr) (len cap : Nat) (w : World) (h0 : k ≠ 0) (h1 : k ≠ 1) (h2 : k ≠ 2) :
    Calls Tryd.prog 62 #[.agg #[.int .i64 k, .slice a len cap]] w fun e w' => e = .returned (.tuple #[.slice none 0 0, .int .i64 1]) ∧ Below w.heap.size w w' := by
  have t0 : (k == 0) = false := by simpa using h0
  have t1 : (k == 1) = false := by simpa using h1
  have t2 : (k == 2) = false := by simpa using h2
  clear h0 h1 h2
  go_enter Tryd.func62, Tryd.ntmps62
  go_wp2_with fail
  go_ret2
  exact ⟨rfl, below_one _ _⟩

/-- putInt behind the box of the argument: what it made, and the box and what it leads to still there. -/
theorem putInt_in (a : Option Addr) (len cap : Nat) (zs : List Int) (w W : World) (h : IsB w a len cap zs) (hl : len ≤ 140737488351232) (hW : Below (w.alloc (.cells #[.int .i64 2, .slice a len cap] 26)).heap.size (w.alloc (.cells #[.int .i64 2, .slice a len cap] 26)) W) :
    Calls Tryd.prog 81 #[.int .i64 len] W fun e w' => ∃ v, e = .returned v ∧ Hid (OwnB w' (w.heap.size + 1) v 4 (putL len 4)) ∧ Below w.heap.size w w' ∧ Hid (IsB w' a len cap zs) ∧
      w'.cell? ⟨w.heap.size, 1, none⟩ = some (.slice a len cap) ∧ w.heap.size + 1 ≤ w'.heap.size := by
  refine (putInt_any len W).mono ?_
  rintro e w1 ⟨v, rfl, ho, hB⟩
  rw [show IntKind.u64.wrap (len : Int) = len from by rw [IntKind.wrap_u64]; omega] at ho
  have hs := hW.size
  simp at hs
  have hB1 := hW.trans (hB.mono hW.size)
  have hB2 : Below w.heap.size w w1 := (below_one w _).trans (hB1.mono (by simp))
  have hs1 := hB1.size
  simp at hs1
  refine ⟨v, rfl, ho.mono (by omega), hB2, h.old hB2, ?_, by omega⟩
  rw [hB1.cell (by simp)]
  simp [go_sem]

theorem cell_on {w w1 w2 : World} {u : Value} {s : Nat} (hB : Below (s + 1) w1 w2) (h : w1.cell? ⟨s, 1, none⟩ = some u) : w2.cell? ⟨s, 1, none⟩ = some u := (hB.cell (by simp)).trans h

set_option maxHeartbeats 1000000 in
theorem value_set (a : Option Addr) (len cap : Nat) (zs : List Int) (w : World) (h : IsB w a len cap zs) (hsm : len ≤ 140737488351232) :
    Calls Tryd.prog 62 #[.agg #[.int .i64 2, .slice a len cap]] w fun e w' => ∃ v, e = .returned (.tuple #[v, .int .i64 0]) ∧ OwnB w' w.heap.size v (4 + len) (putL len 4 ++ zs) ∧ Below w.heap.size w w' := by
  have H : Hid (IsB w a len cap zs) := h
  have HBD : Hid (4 + len ≤ 140737488355328) := (by omega : 4 + len ≤ 140737488355328)
  clear h
  go_enter Tryd.func62, Tryd.ntmps62
  go_wp2_with fail
  go_region_held3 (fun w' => w'.cell? ⟨w.heap.size, 1, none⟩ = some (.slice a len cap)) (go_keep)
    (first
      | (go_at_call 81; refine (putInt_in a len cap zs w _ H.out hsm ?_).mono ?_; (exact (Below.refl _ _).drew); rintro e w1 ⟨v, rfl, HO, hB, HB, hc1, hs1⟩)
      | (refine step_append_bytes rfl (.tmp 17) (.tmp 19) rfl (by rfl) HO.out (by rfl) HB.out HBD.out hs1 ?_; intro v2 w2 ho2 hB2; have HO2 : Hid (OwnB _ _ _ _ _) := ho2; have hc2 := cell_on (w := w) hB2 hc1; clear ho2))
  go_wp2_with fail
  go_ret2
  exact ⟨v2, rfl, HO2.out.mono (by omega), hB.trans (hB2.mono (by omega))⟩

/-- A row of four bytes that is written out. -/
theorem own_four (w : World) (a b c d : Int) (base H : Nat) (hH : w.heap.size = H) (hb : base ≤ H) : OwnB (w.alloc (.cells #[.int .u8 a, .int .u8 b, .int .u8 c, .int .u8 d] 5)) base (.slice (some ⟨H, 0, none⟩) 4 4) 4 [a, b, c, d] := by
  subst hH
  exact ⟨rfl, .inr ⟨w.heap.size, 4, _, rfl, hb, heap_alloc_new w _, Nat.le_refl _, by unfold maxLen; omega, rfl, rfl⟩⟩

set_option maxHeartbeats 400000 in
theorem rvalue_null (s : ByteArray) (w : World) :
    Calls Tryd.prog 37 #[.agg #[.int .i64 0, .string s]] w fun e w' => ∃ v, e = .returned (.tuple #[v, .int .i64 0]) ∧ OwnB w' w.heap.size v 4 [255, 255, 255, 255] ∧ Below w.heap.size w w' := by
  go_enter Tryd.func37, Tryd.ntmps37
  go_wp2_with fail
  go_ret2
  exact ⟨_, rfl, own_four (w.alloc (.cells #[.int .i64 0, .string s] 35)) 255 255 255 255 w.heap.size (w.heap.size + 1) (by simp) (by omega), (below_one _ _).alloc (by simp) _⟩

set_option maxHeartbeats 400000 in
theorem rvalue_unset (s : ByteArray) (w : World) :
    Calls Tryd.prog 37 #[.agg #[.int .i64 1, .string s]] w fun e w' => ∃ v, e = .returned (.tuple #[v, .int .i64 0]) ∧ OwnB w' w.heap.size v 4 [255, 255, 255, 254] ∧ Below w.heap.size w w' := by
  go_enter Tryd.func37, Tryd.ntmps37
  go_wp2_with fail
  go_ret2
  exact ⟨_, rfl, own_four (w.alloc (.cells #[.int .i64 1, .string s] 35)) 255 255 255 254 w.heap.size (w.heap.size + 1) (by simp) (by omega), (below_one _ _).alloc (by simp) _⟩

set_option maxHeartbeats 400000 in
theorem rvalue_none (k : Int) (s : ByteArray) (w : World) (h0 : k ≠ 0) (h1 : k ≠ 1) (h2 : k ≠ 2) :
    Calls Tryd.prog 37 #[.agg #[.int .i64 k, .string s]] w fun e w' => e = .returned (.tuple #[.slice none 0 0, .int .i64 1]) ∧ Below w.heap.size w w' := by
  have t0 : (k == 0) = false := by simpa using h0
  have t1 : (k == 1) = false := by simpa using h1
  have t2 : (k == 2) = false := by simpa using h2
  clear h0 h1 h2
  go_enter Tryd.func37, Tryd.ntmps37
  go_wp2_with fail
  go_ret2
  exact ⟨rfl, below_one _ _⟩

set_option maxHeartbeats 400000 in
theorem rvalue_set (s : ByteArray) (w : World) (hs : s.size ≤ 140737488351232) :
    Calls Tryd.prog 37 #[.agg #[.int .i64 2, .string s]] w fun e w' => ∃ v, e = .returned (.tuple #[v, .int .i64 0]) ∧ OwnB w' w.heap.size v (4 + s.size) (putL s.size 4 ++ sNums s) ∧ Below w.heap.size w w' := by
  go_enter Tryd.func37, Tryd.ntmps37
  go_wp2_with fail
  refine (rlong_yes s _ hs).mono ?_
  rintro e w1 ⟨v, rfl, ho, hB⟩
  have HO : Hid (OwnB _ _ _ _ _) := ho
  clear ho
  go_wp2_with fail
  go_ret2
  exact ⟨v, rfl, HO.out.mono (by simp), (below_one _ _).trans (hB.mono (by simp))⟩

def valueA (zs : List Int) : Ans :=
  if zs.length < 4 then ⟨0, [], 0, 10⟩ else if int4 zs < -2 then ⟨0, [], 0, 11⟩ else if int4 zs = -2 then ⟨1, [], 4, 0⟩ else if int4 zs = -1 then ⟨0, [], 4, 0⟩ else
  if ((zs.length - 4 : Nat) : Int) < int4 zs then ⟨0, [], 0, 10⟩ else ⟨2, (zs.drop 4).take (int4 zs).toNat, 4 + (int4 zs).toNat, 0⟩

theorem getValue_any {w : World} {a : Option Addr} {len cap : Nat} {zs : List Int} (h : IsB w a len cap zs) (hsm : len ≤ 140737488351232) :
    Calls Tryd.prog 44 #[.slice a len cap] w fun e w' => ∃ r lr cr x lx cx, e = .returned (.tuple #[.agg #[.int .i64 (valueA zs).kind, .slice x lx cx], .slice r lr cr, .int .i64 (valueA zs).err]) ∧ Hid (IsB w' x lx cx (valueA zs).bytes) ∧ Fresh w.heap.size w' x ∧ Hid (Behind w' a r lr cr zs (valueA zs).done (valueA zs).err) ∧ Below w.heap.size w w' := by
  obtain ⟨h1, h2, h3, h4, h5⟩ := h
  subst h1
  by_cases hl : zs.length < 4
  · simp only [valueA, if_pos hl]
    refine (getValue_short0 a _ cap w hl).mono ?_
    rintro e w' ⟨rfl, hB⟩
    exact ⟨none, 0, 0, none, 0, 0, rfl, isB_nil _, Fresh.none, .inl ⟨by decide, rfl⟩, hB⟩
  · obtain ⟨b, off, rfl, hR⟩ := h5 (by omega)
    have hb := hR.lt (by omega)
    simp only [valueA, if_neg hl]
    by_cases hg : int4 zs < -2
    · simp only [if_pos hg]
      refine (getValue_form hR (by omega) hg).mono ?_
      rintro e w' ⟨rfl, hB⟩
      exact ⟨none, 0, 0, none, 0, 0, rfl, isB_nil _, Fresh.none, .inl ⟨by decide, rfl⟩, hB⟩
    · simp only [if_neg hg]
      by_cases hu : int4 zs = -2
      · simp only [if_pos hu]
        refine (getValue_unset hR (by omega) hu).mono ?_
        rintro e w' ⟨off', rfl, hR', hB⟩
        exact ⟨_, _, _, none, 0, 0, rfl, isB_nil _, Fresh.none, .inr ⟨rfl, by omega, by omega, b, off, off', rfl, rfl, Nat.lt_of_lt_of_le hb hB.size, hR'⟩, hB⟩
      · simp only [if_neg hu]
        by_cases hv : int4 zs = -1
        · simp only [if_pos hv]
          refine (getValue_null hR (by omega) hv).mono ?_
          rintro e w' ⟨off', rfl, hR', hB⟩
          exact ⟨_, _, _, none, 0, 0, rfl, isB_nil _, Fresh.none, .inr ⟨rfl, by omega, by omega, b, off, off', rfl, rfl, Nat.lt_of_lt_of_le hb hB.size, hR'⟩, hB⟩
        · simp only [if_neg hv]
          by_cases hn : ((zs.length - 4 : Nat) : Int) < int4 zs
          · simp only [if_pos hn]
            refine (getValue_short hR (by omega) hn).mono ?_
            rintro e w' ⟨rfl, hB⟩
            exact ⟨none, 0, 0, none, 0, 0, rfl, isB_nil _, Fresh.none, .inl ⟨by decide, rfl⟩, hB⟩
          · simp only [if_neg hn]
            obtain ⟨n, hn2⟩ := Int.eq_ofNat_of_zero_le (show 0 ≤ int4 zs by omega)
            rw [hn2, Int.toNat_natCast]
            refine (getValue_set hR hsm n (by omega) hn2).mono ?_
            rintro e w' ⟨off', g, hg, hgl, rfl, hX, hR', hB⟩
            exact ⟨_, _, _, _, _, _, rfl, hX.isB, Fresh.at hg hgl, .inr ⟨rfl, by omega, by omega, b, off, off', rfl, rfl, Nat.lt_of_lt_of_le hb hB.size, hR'⟩, hB⟩

def valueB (x : Int × ByteArray) : List Int × Int :=
  if x.1 = 0 then ([255, 255, 255, 255], 0) else if x.1 = 1 then ([255, 255, 255, 254], 0) else if x.1 = 2 then (putL x.2.size 4 ++ sNums x.2, 0) else ([], 1)

def valueR (zs : List Int) : Res (Int × ByteArray) := ⟨((valueA zs).kind, strOfNums (valueA zs).bytes), (valueA zs).done, (valueA zs).err⟩
end Go.Proofs.YtnapeecmlkkolaaDoor
