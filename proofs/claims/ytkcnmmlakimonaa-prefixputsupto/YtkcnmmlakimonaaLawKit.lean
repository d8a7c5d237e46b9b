/-
  What the laws have in common: what is read, seen always; contracts said from a fixed world; a slice's tail.
-/
import Derived.Test.YtkcnmmlakimonaaAwake7
namespace Go.Proofs.Ytkcnmmlakimonaa
open Go.RowKit
set_option maxRecDepth 100000
set_option linter.unusedVariables false
set_option linter.unusedSimpArgs false

theorem rest2_val (f : Int) (zs : List Int) (T : List Int) (ws : List ByteArray) (d : Nat) (h : (rest2 f zs T ws d).err ≠ 0) : (rest2 f zs T ws d).val = default := by
  unfold rest2 at h ⊢
  split
  · rename_i he; rw [if_pos he] at h; exact absurd rfl h
  · rfl
theorem rest1_val (f : Int) (zs : List Int) (T : List Int) (d : Nat) (h : (rest1 f zs T d).err ≠ 0) : (rest1 f zs T d).val = default := by
  unfold rest1 at h ⊢
  split
  · rename_i he; rw [if_pos he] at h; exact rest2_val _ _ _ _ _ h
  · rfl
theorem rest0_val (f : Int) (zs : List Int) (h : (rest0 f zs).err ≠ 0) : (rest0 f zs).val = default := by
  unfold rest0 at h ⊢
  split
  · rename_i he; rw [if_pos he] at h; exact rest1_val _ _ _ _ h
  · rfl

theorem opt_len {α : Type} {p : List Int → Res α} (c : Bool) (zs : List Int) (hr : ∀ j : Nat, 0 ≤ zs[j]?.getD 0 ∧ zs[j]?.getD 0 ≤ 255) : (opt c (listR p) zs).val.length ≤ 65536 := by
  unfold opt
  split
  · exact listR_len' zs hr
  · exact Nat.zero_le _

theorem rest2_len (f : Int) (zs : List Int) (hr : ∀ j : Nat, 0 ≤ zs[j]?.getD 0 ∧ zs[j]?.getD 0 ≤ 255) (T : List Int) (ws : List ByteArray) (d : Nat) : (rest2 f zs T ws d).val.2.1.length ≤ ws.length ∧ (rest2 f zs T ws d).val.2.2.length ≤ 65536 := by
  unfold rest2
  split
  · exact ⟨Nat.le_refl _, opt_len _ _ (range_drop hr d)⟩
  · exact ⟨Nat.zero_le _, Nat.zero_le _⟩
theorem rest1_len (f : Int) (zs : List Int) (hr : ∀ j : Nat, 0 ≤ zs[j]?.getD 0 ∧ zs[j]?.getD 0 ≤ 255) (T : List Int) (d : Nat) : (rest1 f zs T d).val.2.1.length ≤ 65536 ∧ (rest1 f zs T d).val.2.2.length ≤ 65536 := by
  unfold rest1
  split
  · have h1 := rest2_len f zs hr T (opt (bitB f 8) (listR textR) (zs.drop d)).val (d + (opt (bitB f 8) (listR textR) (zs.drop d)).done)
    exact ⟨Nat.le_trans h1.1 (opt_len _ _ (range_drop hr d)), h1.2⟩
  · exact ⟨Nat.zero_le _, Nat.zero_le _⟩
theorem rest0_len (f : Int) (zs : List Int) (hr : ∀ j : Nat, 0 ≤ zs[j]?.getD 0 ∧ zs[j]?.getD 0 ≤ 255) : (rest0 f zs).val.2.1.length ≤ 65536 ∧ (rest0 f zs).val.2.2.length ≤ 65536 := by
  unfold rest0
  split
  · exact rest1_len _ _ hr _ _
  · exact ⟨Nat.zero_le _, Nat.zero_le _⟩

theorem resp_pv {w : World} {a : Option Addr} {len cap : Nat} {zs : List Int} (f : Int) (h : IsB w a len cap zs) (hsm : len ≤ 140737488351232) {Y : Res Pre} (hY : Y = rest0 f zs) :
    Calls Try.prog 8 #[.int .u8 f, .slice a len cap] w fun e w' => ∃ t lt ct v1 l1 c1 v2 l2 c2 r lr cr, e = .returned (.tuple #[.agg #[.slice t lt ct, .slice v1 l1 c1, .slice v2 l2 c2], .slice r lr cr, .int .i64 Y.err]) ∧
      Hid (PV w' t lt ct v1 l1 c1 v2 l2 c2 Y.val) ∧ Hid (l1 ≤ 100000000 ∧ l2 ≤ 100000000) ∧ Hid (Lft w' r lr cr zs Y.done Y.err) ∧ Hid (Below w.heap.size w w') := by
  have hlen := rest0_len f zs h.range
  rw [← hY] at hlen
  refine (resp_any f h hsm hY).mono ?_
  rintro e w' ⟨t, lt, ct, v1, l1, c1, v2, l2, c2, r, lr, cr, rfl, HP, HN, HL, HB⟩
  have hp : PV w' t lt ct v1 l1 c1 v2 l2 c2 Y.val := by
    by_cases he : Y.err = 0
    · exact HP.out he
    · obtain ⟨rfl, rfl, rfl, rfl, rfl, rfl, rfl, rfl, rfl⟩ := HN.out he
      rw [hY] at he
      rw [hY, rest0_val f zs he]
      exact pv_nil w'
  exact ⟨t, lt, ct, v1, l1, c1, v2, l2, c2, r, lr, cr, rfl, hp, ⟨by have := hp.2.1.1; omega, by have := hp.2.2.1; omega⟩, HL, HB⟩

theorem req_pv {w : World} {a : Option Addr} {len cap : Nat} {zs : List Int} (f : Int) (h : IsB w a len cap zs) (hsm : len ≤ 140737488351232) {Y : Res Pre} (hY : Y = rest2 f zs [] [] 0) :
    Calls Try.prog 10 #[.int .u8 f, .slice a len cap] w fun e w' => ∃ t lt ct v1 l1 c1 v2 l2 c2 r lr cr, e = .returned (.tuple #[.agg #[.slice t lt ct, .slice v1 l1 c1, .slice v2 l2 c2], .slice r lr cr, .int .i64 Y.err]) ∧
      Hid (PV w' t lt ct v1 l1 c1 v2 l2 c2 Y.val) ∧ Hid (l1 ≤ 100000000 ∧ l2 ≤ 100000000) ∧ Hid (Lft w' r lr cr zs Y.done Y.err) ∧ Hid (Below w.heap.size w w') := by
  have hlen := rest2_len f zs h.range [] [] 0
  rw [← hY] at hlen
  simp only [List.length_nil] at hlen
  refine (req_any f h hsm hY).mono ?_
  rintro e w' ⟨t, lt, ct, v1, l1, c1, v2, l2, c2, r, lr, cr, rfl, HP, HN, HL, HB⟩
  have hp : PV w' t lt ct v1 l1 c1 v2 l2 c2 Y.val := by
    by_cases he : Y.err = 0
    · exact HP.out he
    · obtain ⟨rfl, rfl, rfl, rfl, rfl, rfl, rfl, rfl, rfl⟩ := HN.out he
      rw [hY] at he
      rw [hY, rest2_val f zs _ _ _ he]
      exact pv_nil w'
  exact ⟨t, lt, ct, v1, l1, c1, v2, l2, c2, r, lr, cr, rfl, hp, ⟨by have := hp.2.1.1; omega, by have := hp.2.2.1; omega⟩, HL, HB⟩

theorem pof_from {w W : World} (hW : Below w.heap.size w W) {t : Option Addr} {lt ct : Nat} {v1 : Option Addr} {l1 c1 : Nat} {v2 : Option Addr} {l2 c2 : Nat} {x : Pre} (hV : PV w t lt ct v1 l1 c1 v2 l2 c2 x) (hl : l1 ≤ 100000000 ∧ l2 ≤ 100000000) {s : ByteArray} (hs : s = strOfNums x.1) {I1 I2 : List It} (hI1 : I1 = x.2.1.map keyIt) (hI2 : I2 = x.2.2.map entryIt) :
    Calls Try.prog 12 #[.agg #[.slice t lt ct, .slice v1 l1 c1, .slice v2 l2 c2]] W fun e w' => ∃ a1 k1 a2 k2, e = .returned (.agg #[.string s, .slice a1 I1.length k1, .slice a2 I2.length k2]) ∧ Hid (View 5 VI w' a1 I1.length k1 I1 ∧ View 5 VI w' a2 I2.length k2 I2) ∧ Hid (Below w.heap.size w w') := by
  refine (pof (hV.old hW) hl.1 hl.2 hs hI1 hI2).mono ?_
  rintro e w' ⟨a1, k1, a2, k2, rfl, H1, H2, HB⟩
  exact ⟨a1, k1, a2, k2, rfl, ⟨H1.out, H2.out⟩, hW.trans (HB.out.mono hW.size)⟩

/-- pof, and that what was seen before is still seen. -/
theorem pof_from2 {w W : World} (hW : Below w.heap.size w W) {t : Option Addr} {lt ct : Nat} {v1 : Option Addr} {l1 c1 : Nat} {v2 : Option Addr} {l2 c2 : Nat} {x : Pre} (hV : PV w t lt ct v1 l1 c1 v2 l2 c2 x) (hl : l1 ≤ 100000000 ∧ l2 ≤ 100000000) {s : ByteArray} (hs : s = strOfNums x.1) {I1 I2 : List It} (hI1 : I1 = x.2.1.map keyIt) (hI2 : I2 = x.2.2.map entryIt)
    {b1 b2 : Option Addr} {d1 d2 : Nat} {J1 J2 : List It} (hJ : View 5 VI W b1 J1.length d1 J1 ∧ View 5 VI W b2 J2.length d2 J2) :
    Calls Try.prog 12 #[.agg #[.slice t lt ct, .slice v1 l1 c1, .slice v2 l2 c2]] W fun e w' => ∃ a1 k1 a2 k2, e = .returned (.agg #[.string s, .slice a1 I1.length k1, .slice a2 I2.length k2]) ∧ Hid (View 5 VI w' a1 I1.length k1 I1 ∧ View 5 VI w' a2 I2.length k2 I2) ∧ Hid (View 5 VI w' b1 J1.length d1 J1 ∧ View 5 VI w' b2 J2.length d2 J2) ∧ Hid (Below w.heap.size w w') := by
  refine (pof (hV.old hW) hl.1 hl.2 hs hI1 hI2).mono ?_
  rintro e w' ⟨a1, k1, a2, k2, rfl, H1, H2, HB⟩
  exact ⟨a1, k1, a2, k2, rfl, ⟨H1.out, H2.out⟩, ⟨hJ.1.old stays_i HB.out, hJ.2.old stays_i HB.out⟩, hW.trans (HB.out.mono hW.size)⟩

theorem same_here {w W : World} (hW : Below w.heap.size w W) (s : ByteArray) {I1 I2 : List It} {a1 a2 b1 b2 : Option Addr} {c1 c2 d1 d2 : Nat} (h : View 5 VI W a1 I1.length c1 I1 ∧ View 5 VI W a2 I2.length c2 I2) (g : View 5 VI W b1 I1.length d1 I1 ∧ View 5 VI W b2 I2.length d2 I2) :
    Calls Try.prog 11 #[.agg #[.string s, .slice a1 I1.length c1, .slice a2 I2.length c2], .agg #[.string s, .slice b1 I1.length d1, .slice b2 I2.length d2]] W fun e w' => e = .returned (.bool true) ∧ Hid (Below w.heap.size w w') := by
  refine (same7 s h.1 h.2 g.1 g.2).mono ?_
  rintro e w' ⟨rfl, HB⟩
  exact ⟨rfl, hW.trans (HB.out.mono hW.size)⟩

theorem same_old {w W : World} (hW : Below w.heap.size w W) (s : ByteArray) {I1 I2 : List It} {a1 a2 b1 b2 : Option Addr} {c1 c2 d1 d2 : Nat} (h : View 5 VI W a1 I1.length c1 I1 ∧ View 5 VI W a2 I2.length c2 I2) (g : View 5 VI w b1 I1.length d1 I1 ∧ View 5 VI w b2 I2.length d2 I2) :
    Calls Try.prog 11 #[.agg #[.string s, .slice a1 I1.length c1, .slice a2 I2.length c2], .agg #[.string s, .slice b1 I1.length d1, .slice b2 I2.length d2]] W fun e w' => e = .returned (.bool true) ∧ Hid (Below w.heap.size w w') :=
  same_here hW s h ⟨g.1.old stays_i hW, g.2.old stays_i hW⟩

theorem conv_old {w : World} {a : Option Addr} {l c : Nat} {zs : List Int} (h : IsB w a l c zs) {R : ByteArray} (hR : R = strOfNums zs) {W : World} (hW : Below w.heap.size w W) : (convert 22 9 (.slice a l c)).run Try.prog W = .ok (.string R) W := by
  rw [hR]; exact (h.old hW).conv

/-- A tail of bytes that came in: what the slice is, and what it reads as. -/
theorem tail_of {w : World} {a : Option Addr} {len cap : Nat} {zs : List Int} (h : IsB w a len cap zs) (d : Nat) (hd : d ≤ len) (P : Int) (hP : P = d) :
    ∃ a' l' c', (∀ W, (Instr.slice 22 (.slice a len cap) (some (.int .i64 P)) none none).run Try.prog W = .ok (.slice a' l' c') W) ∧ IsB w a' l' c' (zs.drop d) := by
  subst hP
  obtain ⟨h1, h2, h3, h4, h5⟩ := h
  have hr : ∀ W, (Instr.slice 22 (.slice a len cap) (some (.int .i64 (d : Int))) none none).run Try.prog W = .ok (.slice (if cap = d then a else a.map (·.add (d * 1))) (len - d) (cap - d)) W := by
    intro W
    have := run_slice_l (P := Try.prog) (w := W) 22 a len cap Try.underlying22 .i64 (d : Int) (by omega) (by omega)
    rw [this]
    simp [go_sem]
  refine ⟨_, _, _, hr, ?_⟩
  by_cases hp : d < len
  · obtain ⟨b, off, rfl, hR⟩ := h5 (by omega)
    rw [if_neg (by omega)]
    have e : (some (⟨b, off, none⟩ : Addr)).map (·.add (d * 1)) = some ⟨b, off + d, none⟩ := by
      simp only [Option.map_some, Nat.mul_one, Option.some.injEq]
      unfold Addr.add
      split <;> simp_all
    rw [e]
    exact (hR.drop d hd (fun _ => rfl)).isB
  · refine ⟨by rw [List.length_drop]; omega, by omega, by omega, fun e => ?_, fun hh => by omega⟩
    by_cases hc : cap = d
    · omega
    · rw [if_neg hc] at e
      cases a with
      | none => have := (h4 rfl).2; omega
      | some p => simp at e
end Go.Proofs.Ytkcnmmlakimonaa
