/-
  What the statements ask first: awake answers true, and turns nothing that was there.
-/
import Derived.Test.YtohkpihjkaffoaaDoorNw
import Derived.Test.YtohkpihjkaffoaaDoorRd
namespace Go.Proofs.YtohkpihjkaffoaaDoor
open Go.RowKit
set_option maxRecDepth 100000
set_option linter.unusedVariables false
set_option linter.unusedSimpArgs false

/-- A slice over a block of its own, as it is seen. -/
theorem view_block {α : Type} [Inhabited α] {size : Nat} {V : World → α → (Nat → Value) → Prop} {w : World} {g : Nat} {cs : Array Value} {t : TypeId} {fr : Nat × Nat} (hh : w.heap[g]? = some (.cells cs t fr)) {xs : List α} {n : Nat} (hn : xs.length = n) (hc : cs.size = n * size) (hm : n ≤ maxLen)
    (hv : ∀ i, i < n → V w (xs.getD i default) (fun j => cs.toList.getD (i * size + j) default)) : View size V w (some ⟨g, 0, none⟩) n n xs := by
  refine ⟨hn, Nat.le_refl _, hm, (fun e => by cases e), fun hp => ⟨g, 0, rfl, (Array.getElem?_eq_some_iff.1 hh).1, fun i hi => ⟨_, fun j hj => ?_, hv i hi⟩⟩⟩
  have hlt : i * size + j < cs.size := by
    have : (i + 1) * size ≤ n * size := Nat.mul_le_mul_right _ hi
    rw [Nat.succ_mul] at this
    omega
  simp [World.cell?, hh, hlt]

theorem view_two (w : World) (a b : Int) (x y : ByteArray) : View 2 VP (w.alloc (.cells #[.int .i64 a, .string x, .int .i64 b, .string y] 46)) (some ⟨w.heap.size, 0, none⟩) 2 2 [(a, x), (b, y)] := by
  refine view_block (heap_alloc_new w _) rfl rfl (by unfold maxLen; omega) (fun i hi => ?_)
  rcases (show i = 0 ∨ i = 1 by omega) with rfl | rfl <;> exact ⟨rfl, rfl⟩

def bA : ByteArray := ⟨#[97]⟩
def bB : ByteArray := ⟨#[98]⟩
theorem aw_new : newE [(20, ⟨#[98]⟩), (10, ⟨#[97]⟩)] = 0 := by decide +kernel
theorem aw_dup : newE [(1, ⟨#[97]⟩), (1, ⟨#[98]⟩)] = 11 := by decide +kernel
def awPs : List Pl := [(10, ⟨#[97]⟩), (20, ⟨#[98]⟩)]
theorem aw_str : Str awPs := by unfold Str awPs; simp
theorem aw_ps {ps : List Pl} (hp : ps.Perm [(20, ⟨#[98]⟩), (10, ⟨#[97]⟩)]) (hs : Str ps) : ps = awPs := str_unique hs aw_str (hp.trans (List.Perm.swap _ _ _))
theorem aw_own1 : (⟨#[98]⟩ : ByteArray) = ownV awPs 11 := by decide +kernel
theorem aw_own2 : (⟨#[97]⟩ : ByteArray) = ownV awPs 21 := by decide +kernel
theorem aw_walk : (walkL awPs 11).length = 2 := by decide +kernel
theorem aw_read : rd (⟨#[45, 48, 49, 50]⟩ : ByteArray).data.toList = some (-12) := by decide +kernel

set_option maxHeartbeats 2000000 in
theorem awake_any (w : World) : Calls Tryd.prog 8 #[] w fun e w' => e = .returned (.bool true) ∧ Below w.heap.size w w' := by
  have HV : Hid _ := view_two w 20 10 ⟨#[98]⟩ ⟨#[97]⟩
  go_enter Tryd.func8, Tryd.ntmps8
  go_wp2_with fail
  refine (new_any HV.out (by omega) aw_new.symm).mono ?_
  rintro e w1 ⟨v1, rfl, HR1, hB1⟩
  rcases HR1.out with ⟨h, _⟩ | ⟨_, N, ps, rfl, hp, hs, hR⟩
  · exact absurd aw_new h
  obtain rfl := aw_ps hp hs
  have HR : Hid (RingAt w1 N awPs) := hR
  have HB1 : Hid (Below w.heap.size w w1) := (below_one w _).trans (hB1.mono (by simp))
  clear hR hB1 HR1 HV hp hs
  go_wp2_with fail
  refine (owner_any aw_str HR.out (by decide) aw_own1 (r := true) (by decide)).mono ?_
  rintro e w2 ⟨rfl, hB2⟩
  have HR2 : Hid (RingAt w2 N awPs) := HR.out.old hB2
  have HB2 : Hid (Below w.heap.size w w2) := HB1.out.trans (hB2.mono HB1.out.size)
  clear hB2 HR HB1
  go_wp2_with fail
  refine (owner_any aw_str HR2.out (by decide) aw_own2 (r := true) (by decide)).mono ?_
  rintro e w3 ⟨rfl, hB3⟩
  have HR3 : Hid (RingAt w3 N awPs) := HR2.out.old hB3
  have HB3 : Hid (Below w.heap.size w w3) := HB2.out.trans (hB3.mono HB2.out.size)
  have HV3 : Hid _ := view_two w3 1 1 ⟨#[97]⟩ ⟨#[98]⟩
  clear hB3 HR2 HB2
  go_wp2_with fail
  refine (new_any HV3.out (by omega) aw_dup.symm).mono ?_
  rintro e w4 ⟨v4, rfl, HR4, hB4⟩
  rcases HR4.out with ⟨_, rfl⟩ | ⟨h, _⟩
  rotate_left
  · rw [aw_dup] at h; cases h
  have HR4' : Hid (RingAt w4 N awPs) := (HR3.out.old (below_one w3 _)).old hB4
  have HB4 : Hid (Below w.heap.size w w4) := (HB3.out.alloc HB3.out.size _).trans (hB4.mono (by simp; have := HB3.out.size; omega))
  clear hB4 HR4 HR3 HB3 HV3
  go_wp2_with fail
  refine (read_ok (s := ⟨#[45, 48, 49, 50]⟩) (by decide) aw_read).mono ?_
  rintro e w5 ⟨rfl, hB5⟩
  have HR5 : Hid (RingAt w5 N awPs) := HR4'.out.old hB5
  have HB5 : Hid (Below w.heap.size w w5) := HB4.out.trans (hB5.mono HB4.out.size)
  clear hB5 HR4' HB4
  go_wp2_with fail
  refine (walk_any aw_str HR5.out (by decide) (fun p hp => by simp [awPs] at hp; rcases hp with rfl | rfl <;> decide)).mono ?_
  rintro e w6 ⟨v6, rfl, HO6, hB6⟩
  obtain ⟨x6, c6, rfl, hV6, _⟩ := HO6.out.view
  rw [aw_walk]
  have HR6 : Hid (RingAt w6 N awPs) := HR5.out.old hB6
  have HB6 : Hid (Below w.heap.size w w6) := HB5.out.trans (hB6.mono HB5.out.size)
  clear hB6 hV6 HO6 HR5 HB5
  go_wp2_with fail
  refine (places_any HR6.out (by decide)).mono ?_
  rintro e w7 ⟨v7, rfl, HO7, hB7⟩
  obtain ⟨x7, c7, rfl, hV7, _⟩ := HO7.out.view
  rw [show awPs.length = 2 from rfl]
  have HB7 : Hid (Below w.heap.size w w7) := HB6.out.trans (hB7.mono HB6.out.size)
  clear hB7 hV7 HO7 HR6 HB6
  go_wp2_with fail
  go_ret
  exact ⟨rfl, HB7.out⟩
end Go.Proofs.YtohkpihjkaffoaaDoor
