/-
  The contract of maps.GetPairs.
-/
import Derived.Test.YtkcnmmlakimonaaGetS
namespace Go.Proofs.Ytkcnmmlakimonaa
open Go.RowKit
set_option maxRecDepth 100000
set_option linter.unusedVariables false
set_option linter.unusedSimpArgs false

theorem Behind.part {w : World} {a r : Option Addr} {lr cr : Nat} {zs : List Int} {d : Nat} {er : Int} (h : Behind w a r lr cr zs d er) (he : er = 0) : d ≤ zs.length ∧ IsB w r lr cr (zs.drop d) ∧ lr ≤ zs.length := by
  rcases h with ⟨h, _⟩ | ⟨_, h1, _, b, o, off, rfl, rfl, _, hR⟩
  · exact absurd he h
  · refine ⟨h1, hR.isB, ?_⟩
    have := hR.len_eq
    rw [List.length_drop] at this
    omega

theorem Behind.join {w W : World} {a r r2 : Option Addr} {lr cr l2 c2 : Nat} {zs : List Int} {d d2 : Nat} {er e2 : Int} (h : Behind w a r lr cr zs d er) (he : er = 0) (h2 : Behind W r r2 l2 c2 (zs.drop d) d2 e2) (he2 : e2 = 0) :
    Behind W a r2 l2 c2 zs (d + d2) 0 := by
  rcases h with ⟨h, _⟩ | ⟨_, h1, hp, b, o, off, rfl, rfl, _, hR⟩
  · exact absurd he h
  rcases h2 with ⟨h, _⟩ | ⟨_, h3, _, b', o', off', hb, rfl, hlt, hR'⟩
  · exact absurd he2 h
  cases hb
  rw [List.drop_drop] at hR'
  rw [List.length_drop] at h3
  exact .inr ⟨rfl, by omega, hp, b, o, off', rfl, rfl, hlt, hR'⟩

theorem Behind.below {w W : World} {a r : Option Addr} {lr cr : Nat} {zs : List Int} {d : Nat} {er : Int} {B : Nat} (h : Behind w a r lr cr zs d er) (hB : Below B w W) (hb : ∀ p, a = some p → 0 < zs.length → p.block < B) : Behind W a r lr cr zs d er := by
  rcases h with h | ⟨h1, h2, h3, b, o, off, h0, h4, h5, h6⟩
  · exact .inl h
  · exact .inr ⟨h1, h2, h3, b, o, off, h0, h4, Nat.lt_of_lt_of_le h5 hB.size, h6.below hB (fun _ => hb _ h0 h3)⟩

theorem IsB.lt {w : World} {a : Option Addr} {len cap : Nat} {zs : List Int} (h : IsB w a len cap zs) : ∀ p, a = some p → 0 < zs.length → p.block < w.heap.size := by
  obtain ⟨h1, h2, h3, h4, h5⟩ := h
  intro p hp hl
  obtain ⟨b, off, ha, hR⟩ := h5 (by omega)
  rw [ha] at hp
  cases hp
  exact hR.lt (by omega)

theorem keyR_key {α : Type} [Inhabited α] {q : List Int → Res α} {zs : List Int} {Y : Res (ByteArray × α)} (hY : Y = keyR q zs) {X : Res ByteArray} (hX : X = textR zs) (he : X.err ≠ 0) : Y = ⟨(ByteArray.empty, default), 0, X.err⟩ := by
  subst hX; rw [hY, keyR, if_neg he]
theorem keyR_part {α : Type} [Inhabited α] {q : List Int → Res α} {zs : List Int} {Y : Res (ByteArray × α)} (hY : Y = keyR q zs) {X : Res ByteArray} (hX : X = textR zs) (he : X.err = 0) {X2 : Res α} (hX2 : X2 = q (zs.drop X.done)) (he2 : X2.err ≠ 0) : Y = ⟨(ByteArray.empty, default), 0, X2.err⟩ := by
  subst hX; subst hX2; rw [hY, keyR, if_pos he, if_neg he2]
theorem keyR_both {α : Type} [Inhabited α] {q : List Int → Res α} {zs : List Int} {Y : Res (ByteArray × α)} (hY : Y = keyR q zs) {X : Res ByteArray} (hX : X = textR zs) (he : X.err = 0) {X2 : Res α} (hX2 : X2 = q (zs.drop X.done)) (he2 : X2.err = 0) : Y = ⟨(X.val, X2.val), X.done + X2.done, 0⟩ := by
  subst hX; subst hX2; rw [hY, keyR, if_pos he, if_pos he2]
end Go.Proofs.Ytkcnmmlakimonaa
