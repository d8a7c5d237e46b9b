/-
  The document's own reading of a prefix: its contract.
-/
import Derived.Test.YtkcnmmlakimonaaPut
import Derived.Test.YtkcnmmlakimonaaCmp
namespace Go.Proofs.Ytkcnmmlakimonaa
open Go.RowKit
set_option maxRecDepth 100000
set_option linter.unusedVariables false
set_option linter.unusedSimpArgs false

theorem bit2 : ∀ n : Fin 256, (bits .and .u8 (n.val : Int) 2 == 0) = !((n.val : Int) / 2 % 2 == 1) := by decide +kernel
theorem bit4 : ∀ n : Fin 256, (bits .and .u8 (n.val : Int) 4 == 0) = !((n.val : Int) / 4 % 2 == 1) := by decide +kernel
theorem bit8 : ∀ n : Fin 256, (bits .and .u8 (n.val : Int) 8 == 0) = !((n.val : Int) / 8 % 2 == 1) := by decide +kernel

theorem bitB2 {f : Int} (h0 : 0 ≤ f) (h1 : f ≤ 255) : bitB f 2 = (f / 2 % 2 == 1) := by
  obtain ⟨n, rfl⟩ := Int.eq_ofNat_of_zero_le h0
  rw [bitB, bit2 ⟨n, by omega⟩, Bool.not_not]
theorem bitB4 {f : Int} (h0 : 0 ≤ f) (h1 : f ≤ 255) : bitB f 4 = (f / 4 % 2 == 1) := by
  obtain ⟨n, rfl⟩ := Int.eq_ofNat_of_zero_le h0
  rw [bitB, bit4 ⟨n, by omega⟩, Bool.not_not]
theorem bitB8 {f : Int} (h0 : 0 ≤ f) (h1 : f ≤ 255) : bitB f 8 = (f / 8 % 2 == 1) := by
  obtain ⟨n, rfl⟩ := Int.eq_ofNat_of_zero_le h0
  rw [bitB, bit8 ⟨n, by omega⟩, Bool.not_not]

/-- The document's Run of 16 bytes. -/
theorem run16 {w : World} {a : Option Addr} {len cap : Nat} {zs : List Int} (h : IsB w a len cap zs) (d : Nat) (hd : d ≤ len) (p : Int) (hp : p = d) {X : Res (List Int)} (hX : X = trR (zs.drop d)) {s : ByteArray} (hs : s = strOfNums X.val) {P : Int} (hP : P = place d X) :
    Calls Try.prog 19 #[.slice a len cap, .int .i64 p, .int .u64 16] w fun e w' => e = .returned (.tuple #[.string s, .int .i64 P, .int .i64 X.err]) ∧ w' = w := by
  subst hs hP
  have h1 := h.1
  by_cases hl : len - d < 16
  · rw [trR, if_pos (by rw [List.length_drop]; omega)] at hX
    subst hX
    exact run_short a len cap d 16 w (Nat.le_trans h.2.1 h.2.2.1) hd (by omega) p hp
  · rw [trR, if_neg (by rw [List.length_drop]; omega)] at hX
    subst hX
    obtain ⟨b, off, rfl, hR⟩ := h.2.2.2.2 (by omega)
    exact run_yes hR d 16 (by omega) p 16 hp rfl

/-- The result and what is read, in two new variables. -/
def RP (w W : World) (s : ByteArray) (a1 : Option Addr) (c1 : Nat) (I1 : List It) (a2 : Option Addr) (c2 : Nat) (I2 : List It) : Prop :=
  W.heap[w.heap.size]? = some (.cells #[.string ⟨#[]⟩, .slice none 0 0, .slice none 0 0] 33 (0, 0)) ∧ W.heap[w.heap.size + 1]? = some (.cells #[.string s, .slice a1 I1.length c1, .slice a2 I2.length c2] 33 (0, 0)) ∧
  Own 81 5 VI W (w.heap.size + 2) (.slice a1 I1.length c1) I1 ∧ Own 81 5 VI W (w.heap.size + 2) (.slice a2 I2.length c2) I2 ∧ Below w.heap.size w W ∧ w.heap.size + 2 ≤ W.heap.size

def R0 (w : World) : World := (w.alloc (.cells #[.string ⟨#[]⟩, .slice none 0 0, .slice none 0 0] 33)).alloc (.cells #[.string ⟨#[]⟩, .slice none 0 0, .slice none 0 0] 33)

theorem rp_start (w : World) : RP w (R0 w) ⟨#[]⟩ none 0 [] none 0 [] := by
  have h2 : (R0 w).heap[w.heap.size + 1]? = some (.cells #[.string ⟨#[]⟩, .slice none 0 0, .slice none 0 0] 33 (0, 0)) := by
    have := heap_alloc_new (w.alloc (.cells #[.string ⟨#[]⟩, .slice none 0 0, .slice none 0 0] 33)) (.cells #[.string ⟨#[]⟩, .slice none 0 0, .slice none 0 0] 33)
    simpa [R0] using this
  exact ⟨blk_old (heap_alloc_new w _) (below_one _ _), h2, own_nil _ _ _ _ _, own_nil _ _ _ _ _, (below_one w _).alloc (by simp) _, by simp [R0]⟩

theorem RP.old {w W W' : World} {s : ByteArray} {a1 : Option Addr} {c1 : Nat} {I1 : List It} {a2 : Option Addr} {c2 : Nat} {I2 : List It} (h : RP w W s a1 c1 I1 a2 c2 I2) (hB : Below W.heap.size W W') : RP w W' s a1 c1 I1 a2 c2 I2 :=
  ⟨blk_old h.1 hB, blk_old h.2.1 hB, h.2.2.1.old stays_i hB, h.2.2.2.1.old stays_i hB, h.2.2.2.2.1.trans (hB.mono h.2.2.2.2.1.size), Nat.le_trans h.2.2.2.2.2 hB.size⟩

theorem RP.set0 {w W : World} {s : ByteArray} {a1 : Option Addr} {c1 : Nat} {I1 : List It} {a2 : Option Addr} {c2 : Nat} {I2 : List It} (h : RP w W s a1 c1 I1 a2 c2 I2) (s' : ByteArray) : RP w (W.setCell ⟨w.heap.size + 1, 0, none⟩ (.string s')) s' a1 c1 I1 a2 c2 I2 := by
  obtain ⟨h1, h2, h3, h4, h5, h6⟩ := h
  exact ⟨by rw [Below.heap_setCell _ _ _ _ (by simp)]; exact h1, three_set0 h2 _, h3.kept stays_i (set_far _ _ _ _) (by simp) (fun k e => by cases e; omega), h4.kept stays_i (set_far _ _ _ _) (by simp) (fun k e => by cases e; omega), h5.setCell (by simp) _, by simpa using h6⟩

theorem RP.set1 {w W : World} {s : ByteArray} {a1 : Option Addr} {c1 : Nat} {I1 : List It} {a2 : Option Addr} {c2 : Nat} {I2 : List It} (h : RP w W s a1 c1 I1 a2 c2 I2) {a' : Option Addr} {c' : Nat} {I' : List It} (ho : Own 81 5 VI W (w.heap.size + 2) (.slice a' I'.length c') I') :
    RP w (W.setCell ⟨w.heap.size + 1, 1, none⟩ (.slice a' I'.length c')) s a' c' I' a2 c2 I2 := by
  obtain ⟨h1, h2, h3, h4, h5, h6⟩ := h
  exact ⟨by rw [Below.heap_setCell _ _ _ _ (by simp)]; exact h1, three_set1 h2 _, ho.kept stays_i (set_far _ _ _ _) (by simp) (fun k e => by cases e; omega), h4.kept stays_i (set_far _ _ _ _) (by simp) (fun k e => by cases e; omega), h5.setCell (by simp) _, by simpa using h6⟩

theorem RP.set2 {w W : World} {s : ByteArray} {a1 : Option Addr} {c1 : Nat} {I1 : List It} {a2 : Option Addr} {c2 : Nat} {I2 : List It} (h : RP w W s a1 c1 I1 a2 c2 I2) {a' : Option Addr} {c' : Nat} {I' : List It} (ho : Own 81 5 VI W (w.heap.size + 2) (.slice a' I'.length c') I') :
    RP w (W.setCell ⟨w.heap.size + 1, 2, none⟩ (.slice a' I'.length c')) s a1 c1 I1 a' c' I' := by
  obtain ⟨h1, h2, h3, h4, h5, h6⟩ := h
  exact ⟨by rw [Below.heap_setCell _ _ _ _ (by simp)]; exact h1, three_set2 h2 _, h3.kept stays_i (set_far _ _ _ _) (by simp) (fun k e => by cases e; omega), ho.kept stays_i (set_far _ _ _ _) (by simp) (fun k e => by cases e; omega), h5.setCell (by simp) _, by simpa using h6⟩

/-- The result is written: what is seen, and what stays. -/
theorem RP.last {w W : World} {s : ByteArray} {a1 : Option Addr} {c1 : Nat} {I1 : List It} {a2 : Option Addr} {c2 : Nat} {I2 : List It} (h : RP w W s a1 c1 I1 a2 c2 I2) (x0 x1 x2 : Value) :
    View 5 VI (((W.setCell ⟨w.heap.size, 0, none⟩ x0).setCell ⟨w.heap.size, 1, none⟩ x1).setCell ⟨w.heap.size, 2, none⟩ x2) a1 I1.length c1 I1 ∧ View 5 VI (((W.setCell ⟨w.heap.size, 0, none⟩ x0).setCell ⟨w.heap.size, 1, none⟩ x1).setCell ⟨w.heap.size, 2, none⟩ x2) a2 I2.length c2 I2 ∧
      Below w.heap.size w (((W.setCell ⟨w.heap.size, 0, none⟩ x0).setCell ⟨w.heap.size, 1, none⟩ x1).setCell ⟨w.heap.size, 2, none⟩ x2) := by
  obtain ⟨h1, h2, h3, h4, h5, h6⟩ := h
  refine ⟨?_, ?_, h5.trans (below_three _ _ _ _ _)⟩
  · obtain ⟨a, c, e, hv, _⟩ := (h3.kept stays_i (three_far W w.heap.size x0 x1 x2) (by simp) (fun k e => by cases e; omega)).view
    cases e
    exact hv
  · obtain ⟨a, c, e, hv, _⟩ := (h4.kept stays_i (three_far W w.heap.size x0 x1 x2) (by simp) (fun k e => by cases e; omega)).view
    cases e
    exact hv

theorem items0 (zs : List Int) : listR item0 zs = (listR textR zs).map (List.map keyIt) := listR_map keyIt textR zs
theorem items3 (zs : List Int) : listR item3 zs = (listR (keyR valueR) zs).map (List.map entryIt) := listR_map entryIt (keyR valueR) zs

theorem rget0_on {w W : World} {s : ByteArray} {a1 : Option Addr} {c1 : Nat} {I1 : List It} {a2 : Option Addr} {c2 : Nat} {I2 : List It} (hR : RP w W s a1 c1 I1 a2 c2 I2) {a : Option Addr} {len cap : Nat} {zs : List Int} (h : IsB w a len cap zs) (d : Nat) (hd : d ≤ len) (p : Int) (hp : p = d) {X : Res (List ByteArray)} (hX : X = listR textR (zs.drop d)) {I : List It} (hI : I = X.val.map keyIt) {P : Int} (hP : P = place d X) :
    Calls Try.prog 20 #[.int .i64 0, .slice a len cap, .int .i64 p] W fun e w' => ∃ a' c', e = .returned (.tuple #[.slice a' I.length c', .int .i64 P, .int .i64 X.err]) ∧ Hid (RP w w' s a1 c1 I1 a2 c2 I2) ∧ Hid (Own 81 5 VI w' (w.heap.size + 2) (.slice a' I.length c') I) := by
  refine (rget0_any (h.old hR.2.2.2.2.1) d hd p hp (items0 (zs.drop d)).symm).mono ?_
  rw [← hX]
  rintro e w1 ⟨v, rfl, HO, hB⟩
  obtain ⟨a', c', e1, _, _⟩ := HO.out.view
  have e2 : v = .slice a' (X.val.map keyIt).length c' := e1
  subst e2 hI hP
  exact ⟨a', c', rfl, hR.old hB, HO.out.mono hR.2.2.2.2.2⟩

theorem rget3_on {w W : World} {s : ByteArray} {a1 : Option Addr} {c1 : Nat} {I1 : List It} {a2 : Option Addr} {c2 : Nat} {I2 : List It} (hR : RP w W s a1 c1 I1 a2 c2 I2) {a : Option Addr} {len cap : Nat} {zs : List Int} (h : IsB w a len cap zs) (d : Nat) (hd : d ≤ len) (p : Int) (hp : p = d) {X : Res (List En)} (hX : X = listR (keyR valueR) (zs.drop d)) {I : List It} (hI : I = X.val.map entryIt) {P : Int} (hP : P = place d X) :
    Calls Try.prog 20 #[.int .i64 3, .slice a len cap, .int .i64 p] W fun e w' => ∃ a' c', e = .returned (.tuple #[.slice a' I.length c', .int .i64 P, .int .i64 X.err]) ∧ Hid (RP w w' s a1 c1 I1 a2 c2 I2) ∧ Hid (Own 81 5 VI w' (w.heap.size + 2) (.slice a' I.length c') I) := by
  refine (rget3_any (h.old hR.2.2.2.2.1) d hd p hp (items3 (zs.drop d)).symm).mono ?_
  rw [← hX]
  rintro e w1 ⟨v, rfl, HO, hB⟩
  obtain ⟨a', c', e1, _, _⟩ := HO.out.view
  have e2 : v = .slice a' (X.val.map entryIt).length c' := e1
  subst e2 hI hP
  exact ⟨a', c', rfl, hR.old hB, HO.out.mono hR.2.2.2.2.2⟩
end Go.Proofs.Ytkcnmmlakimonaa
