/-
  The document's example: the laws' own awake tells true.
-/
import Derived.Test.YtabadlgjocgkjaaJoin
namespace Go.Proofs.Ytabadlgjocgkjaa
open Go.RowKit
set_option linter.unusedVariables false
set_option linter.unusedSimpArgs false

theorem add_any {w : World} {s : Nat} {ver : Int} {kv : Value} {K : List Int} (h : Spl w s ver kv K 0) {xa : Option Addr} {len cap : Nat} {bs : List Int} (hB : IsB w xa len cap bs) (hm : K.length + len ≤ 1000000) {Z : List Int} (hZ : K ++ bs = Z) {fs : List Fr} {R : List Int} {E : Int} (hS : spl ver Z = (fs, R, E)) :
    Calls Try.prog 13 #[.pointer (some ⟨s, 0, none⟩), .slice xa len cap] w fun e w' => ∃ fv kv', e = .returned (.tuple #[fv, .int .i64 E]) ∧ Spl w' s ver kv' R E ∧ Own 44 6 VFr w' (fun k => w.heap.size ≤ k ∧ k ≠ s ∧ kv'.ownBlock ≠ some k) fv fs ∧
      Kept (fun k => k = s ∨ kv.ownBlock = some k) w w' ∧ ∀ k, kv'.ownBlock = some k → kv.ownBlock = some k ∨ w.heap.size ≤ k := by
  refine (add_walk h hB hm hZ).mono ?_
  rintro e w' ⟨fv, kv', rfl, hA⟩
  have h1 := hA.st
  have h2 := hA.own
  rw [hS] at h1 h2
  exact ⟨fv, kv', by rw [hS], h1, h2, hA.kept, hA.blk⟩

/-- A slice of bytes that is written out. -/
theorem isB_lit (w : World) (X : List Int) (hX : Bs X) (hm : X.length ≤ 1000000) (cs : Array Value) (hcs : cs = (X.map (Value.int .u8)).toArray) (n : Nat) (hn : n = X.length) : IsB (w.alloc (.cells cs 5)) (some ⟨w.heap.size, 0, none⟩) n n X := by
  subst hcs hn
  refine ⟨rfl, Nat.le_refl _, by unfold maxLen; omega, (fun e => by cases e), fun hp => ⟨_, 0, rfl, rfl, Nat.le_refl _, by unfold maxLen; omega, fun _ => by simp, fun i hi => ?_, hX⟩⟩
  rw [Nat.zero_add]
  exact row_cell (heap_alloc_new w _) i hi

theorem bs_of {X : List Int} (h : X.all (fun z => decide (0 ≤ z) && decide (z ≤ 255)) = true) : Bs X := by
  intro j
  by_cases hj : j < X.length
  · rw [List.getElem?_eq_getElem hj, Option.getD_some]
    have := List.all_eq_true.1 h _ (List.getElem_mem hj)
    simpa using this
  · rw [List.getElem?_eq_none (by omega)]; simp

/-- The first frame of a row. -/
theorem own_first {w : World} {F : Nat → Prop} {v : Value} {x : Fr} {fs : List Fr} (h : Own 44 6 VFr w F v (x :: fs)) : ∃ b off cap a l cp, v = .slice (some ⟨b, off, none⟩) (fs.length + 1) cap ∧ fs.length + 1 ≤ cap ∧ cap ≤ maxLen ∧ b < w.heap.size ∧ w.cell? ⟨b, off + 5, none⟩ = some (.slice a l cp) ∧ IsB w a l cp x.b ∧ l = x.b.length ∧ w.cell? ⟨b, off + 2, none⟩ = some (.int .i16 x.s) := by
  obtain ⟨a, cap, rfl, hv, _⟩ := h.view
  obtain ⟨h1, h2, h3, h4, h5⟩ := hv
  obtain ⟨b, off, rfl, hb, hc⟩ := h5 (by simp)
  obtain ⟨c, hcell, k0, k1, k2, k3, k4, a', l, cp, k5, hI⟩ := hc 0 (by simp)
  refine ⟨b, off, cap, a', l, cp, rfl, h2, h3, hb, ?_, hI, hI.1.symm, ?_⟩
  · rw [← k5]; simpa using hcell 5 (by omega)
  · have := hcell 2 (by omega)
    rw [k2] at this; simpa using this

theorem awake_spl1 : spl 4 ([] ++ [4, 0, 0, 3, 7, 0, 0, 0, 2, 5]) = ([], [4, 0, 0, 3, 7, 0, 0, 0, 2, 5], 0) := by kernel_rfl
theorem awake_spl2 : spl 4 ([4, 0, 0, 3, 7, 0, 0, 0, 2, 5] ++ [6]) = ([(4, 0, 3, 7, 2, [5, 6])], [], 0) := by kernel_rfl

set_option maxHeartbeats 1000000 in
theorem awake_any (w : World) : Calls Try.prog 10 #[] w fun e w' => e = .returned (.bool true) ∧ Below w.heap.size w w' := by
  go_enter Try.func10, Try.ntmps10
  go_wp2_with fail
  refine (new_any 4 _).mono ?_
  rintro e w1 ⟨rfl, sp1, hB1, hz1⟩
  have S1 : Hid _ := sp1.old (below_one w1 (.cells #[.int .u8 4, .int .u8 0, .int .u8 0, .int .u8 3, .int .u8 7, .int .u8 0, .int .u8 0, .int .u8 0, .int .u8 2, .int .u8 5] 5))
  have HB1 : Hid (Below w.heap.size w w1) := hB1
  have hs : w.heap.size < w1.heap.size := by omega
  clear sp1 hB1 hz1
  go_wp2_with fail
  refine (add_any S1.out (isB_lit w1 [4, 0, 0, 3, 7, 0, 0, 0, 2, 5] (bs_of (by decide)) (by simp) _ rfl 10 rfl) (by simp) rfl awake_spl1).mono ?_
  rintro e w2 ⟨fv, kv, rfl, sp2, ho2, hK2, hb2⟩
  obtain ⟨a2, cap2, rfl, hv2, _⟩ := ho2.view
  have hz2 := hK2.size
  simp at hz2
  have HB2 : Hid (Below w.heap.size w w2) := (HB1.out.trans ((below_one _ _).mono (by omega))).trans (hK2.below (by simp; omega) (fun k _ e => by rcases e with e | e; omega; simp [Value.ownBlock] at e))
  have hkv : ∀ k, kv.ownBlock = some k → w.heap.size ≤ k := fun k e => by rcases hb2 k e with h | h; simp [Value.ownBlock] at h; simp at h; omega
  have S2 : Hid _ := sp2
  clear S1 sp2 ho2 hK2 hb2 hv2
  go_wp2_with fail
  refine (left_any S2.out).mono ?_
  rintro e w2' ⟨rfl, rfl⟩
  have S3 : Hid _ := S2.out.old (below_one w2' (.cells #[.int .u8 6] 5))
  go_wp2_with fail
  refine (add_any S3.out (isB_lit w2' [6] (bs_of (by decide)) (by simp) _ rfl 1 rfl) (by simp) rfl awake_spl2).mono ?_
  rintro e w3 ⟨fv3, kv3, rfl, sp3, ho3, hK3, hb3⟩
  obtain ⟨b3, off3, cap3, a3, l3, cp3, rfl, hcap, hcm, hbz, hc5, hI3, hl3, _⟩ := own_first ho3
  have HB3 : Hid (Below w.heap.size w w3) := (HB2.out.trans ((below_one _ _).mono HB2.out.size)).trans (hK3.below (by simp; omega) (fun k _ e => by rcases e with e | e; omega; exact hkv k e))
  have S4 : Hid _ := sp3
  obtain rfl : l3 = 2 := hl3
  have hz3 := HB3.out.size
  unfold maxLen at hcm
  clear S2 S3 sp3 ho3 hK3 hb3 hkv hI3
  go_wp2_with fail
  refine (join_len 0 0 0 0 0 _ 1 1 _ (by omega) (by omega) (by omega) (by omega)).mono ?_
  rintro e w4 ⟨rfl, hB4⟩
  have hB4' : Below w3.heap.size w3 w4 := (below_one _ _).trans (hB4.mono (by simp))
  have hc5' : w4.cell? ⟨b3, off3 + 5, none⟩ = some (.slice a3 2 cp3) := (hB4'.cell (p := ⟨b3, off3 + 5, none⟩) hbz).trans hc5
  have S5 : Hid _ := S4.out.old hB4'
  have HB4 : Hid (Below w.heap.size w w4) := HB3.out.trans (hB4'.mono hz3)
  clear hc5 S4 hB4 hB4'
  go_wp2_with (go_at_call 14; refine (left_any S5.out).mono ?_; rintro e w' ⟨rfl, rfl⟩)
  go_ret
  exact ⟨rfl, HB4.out⟩
end Go.Proofs.Ytabadlgjocgkjaa
