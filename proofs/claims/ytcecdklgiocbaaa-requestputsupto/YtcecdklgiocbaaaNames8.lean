/-
  append of a row of texts to no slice: a copy of it.
-/
import Derived.Test.YtcecdklgiocbaaaOwnG
namespace Go.Proofs.Ytcecdklgiocbaaa
open Go.RowKit
set_option maxRecDepth 100000
set_option linter.unusedVariables false
set_option linter.unusedSimpArgs false

theorem append_names_run {w : World} {a : Option Addr} {l c : Nat} {ns : List ByteArray} (h : View 1 VS w a l c ns) (hl : l ≤ 1048576) (ty : TypeId) :
    ∃ v' w', (Builtin.append_ #[26, 26] ty #[.slice none 0 0, .slice a l c]).run Try.prog w = .ok v' w' ∧ OwnG 9 1 GS w' (fun k => w.heap.size ≤ k) v' ns ∧ Below w.heap.size w w' := by
  obtain ⟨hsz, ht, i, z, hi, hz, hsize, hby, hzs⟩ := elem_s
  obtain ⟨h1, h2, h3, h4, h5⟩ := h
  have ho : w.ownsRow 0 9 1 (.slice none 0 0) ([] : List Value).length [] := World.ownsRow_nil _ _ _ _
  cases a with
  | none =>
    obtain ⟨rfl, rfl⟩ := h4 rfl
    obtain rfl : ns = [] := List.eq_nil_of_length_eq_zero h1
    exact ⟨_, w, run_append_owned_none (P := Try.prog) (w := w) 0 26 ty 9 i 1 ht hi (.slice none 0 0) 0 [] ho, ownG_nil _ _ _ _ _, Below.refl _ _⟩
  | some ad =>
    have hnews : ∀ j u, (ns.map Value.string)[j]? = some u → w.cell? (ad.add j) = some u := by
      intro j u hu
      rw [List.getElem?_map] at hu
      obtain ⟨s, hs, rfl⟩ := Option.map_eq_some_iff.1 hu
      have hj : j < l := by
        have := (List.getElem?_eq_some_iff.1 hs).1
        omega
      obtain ⟨b, off, hab, hb, hc⟩ := h5 (by omega)
      cases hab
      obtain ⟨cc, hcell, hv⟩ := hc j hj
      have g0 := hcell 0 (by omega)
      have hv' : cc 0 = .string (ns.getD j default) := hv
      rw [hv', List.getD_eq_getElem?_getD, hs] at g0
      have hplain : (⟨b, off, none⟩ : Addr).add j = ⟨b, off + j * 1 + 0, none⟩ := by unfold Addr.add; split <;> simp_all
      rw [hplain]
      exact g0
    have hone : ∀ u ∈ ns.map Value.string, u.oneCell' = true := by
      intro u hu
      obtain ⟨s, _, rfl⟩ := List.mem_map.1 hu
      rfl
    obtain ⟨v', w', hr, ho', hg, hnil, hat⟩ := run_append_own_at (P := Try.prog) w 0 26 ty 9 i z 1 16 ht hi hz hsize hby hzs hsz (.slice none 0 0) 0 [] ho ad l c (ns.map Value.string) (by rw [List.length_map, h1, Nat.mul_one]) hnews hone (by unfold maxLen; omega) (by omega) (by omega)
    have hK := kept_grown hg
    refine ⟨v', w', hr, ⟨ns.map Value.string, ?_, fun k hk => ?_, hone, fun i hi => ?_⟩, hK.below (Nat.le_refl _) (fun j hj e => by simp [Value.ownBlock] at e)⟩
    · have := ho'
      simp only [List.nil_append, Nat.zero_add] at this
      rw [h1]; exact this
    · rcases hat with hat | hat
      · rw [hat] at hk; simp [Value.ownBlock] at hk
      · rw [hat] at hk; simp only [Option.some.injEq] at hk; show w.heap.size ≤ k; omega
    · show (ns.map Value.string).getD (i * 1 + 0) default = _
      rw [Nat.mul_one, Nat.add_zero, List.getD_eq_getElem?_getD, List.getD_eq_getElem?_getD, List.getElem?_map, List.getElem?_eq_getElem hi]
      rfl

theorem wpList_append_names {ops : Array Oper} {rest : List Oper} {o : Oper} {a : Act} {Q : Exit → Act → World → Prop} {w : World} (hgd : o.guard = none) (s y : Operand)
    (ho : o.op = .call { callee := .builtin .append, args := #[s, y], argTypes := #[26, 26] })
    (hs : a.eval s = .slice none 0 0) {na : Option Addr} {l c : Nat} {ns : List ByteArray} (hy : a.eval y = .slice na l c) (h : View 1 VS w na l c ns) (hl : l ≤ 1048576)
    (hk : Hid (∀ v' w', OwnG 9 1 GS w' (fun k => w.heap.size ≤ k) v' ns → Below w.heap.size w w' → wpList Try.prog ops Q rest (a.put o.dst v') w')) : wpList Try.prog ops Q (o :: rest) a w := by
  refine wpList_plain hgd fun K hK => ?_
  obtain ⟨v', w', hr, h2, h3⟩ := append_names_run h hl o.type
  unfold Oper.wp
  simp [execOp, ho, resolve, invoke, builtin, hs, hy, hr, Result.andThen]
  exact hK _ _ (hk.out v' w' h2 h3)
end Go.Proofs.Ytcecdklgiocbaaa
