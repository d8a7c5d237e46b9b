/-
  Add, said of all bytes that ever came; append of frames onto frames.
-/
import Derived.Test.YtabadlgjocgkjaaSame
namespace Go.Proofs.Ytabadlgjocgkjaa
open Go.RowKit
set_option linter.unusedVariables false
set_option linter.unusedSimpArgs false

/-- Behind the bytes U the bytes p come. -/
structure AddedOn (w w' : World) (s : Nat) (ver : Int) (kv : Value) (U p : List Int) (xv kv' : Value) (ys : List Fr) : Prop where
  st : Spl w' s ver kv' (spl ver (U ++ p)).2.1 (spl ver (U ++ p)).2.2
  own : Own 44 6 VFr w' (fun k => w.heap.size ≤ k ∧ k ≠ s ∧ kv'.ownBlock ≠ some k) xv ys
  told : (spl ver (U ++ p)).1 = (spl ver U).1 ++ ys
  kept : Kept (fun k => k = s ∨ kv.ownBlock = some k) w w'
  blk : ∀ k, kv'.ownBlock = some k → kv.ownBlock = some k ∨ w.heap.size ≤ k
  none : (spl ver U).2.2 ≠ 0 → xv = .slice Option.none 0 0 ∧ spl ver (U ++ p) = spl ver U

theorem add_on {w : World} {s : Nat} {ver : Int} {kv : Value} {U p : List Int} (h : Spl w s ver kv (spl ver U).2.1 (spl ver U).2.2) {xa : Option Addr} {len cap : Nat} (hB : IsB w xa len cap p) (hm : U.length + len ≤ 1000000) :
    Calls Try.prog 13 #[.pointer (some ⟨s, 0, none⟩), .slice xa len cap] w fun e w' => ∃ xv kv' ys, e = .returned (.tuple #[xv, .int .i64 (spl ver (U ++ p)).2.2]) ∧ AddedOn w w' s ver kv U p xv kv' ys := by
  have hr := (spl_rest (ver := ver) _ U (Nat.le_refl _)).1
  by_cases he : (spl ver U).2.2 = 0
  · have ha := spl_app (ver := ver) p _ U (Nat.le_refl _) he
    rw [he] at h
    refine (add_any h hB (by omega) rfl (fs := (spl ver ((spl ver U).2.1 ++ p)).1) (R := (spl ver ((spl ver U).2.1 ++ p)).2.1) (E := (spl ver ((spl ver U).2.1 ++ p)).2.2) rfl).mono ?_
    rintro e w' ⟨fv, kv', rfl, h1, h2, h3, h4⟩
    refine ⟨fv, kv', _, by rw [ha], ?_, h2, by rw [ha], h3, h4, fun h => absurd he h⟩
    rw [ha]; exact h1
  · have ha := spl_app_err (ver := ver) p _ U (Nat.le_refl _) he
    refine (add_err h he _).mono ?_
    rintro e w' ⟨rfl, hB'⟩
    refine ⟨.slice Option.none 0 0, kv, [], by rw [ha], ?_, own_nil _ _ _ _ _, by rw [ha, List.append_nil], kept_of hB', fun k e => .inl e, fun _ => ⟨rfl, ha⟩⟩
    rw [ha]; exact h.old hB'

/-- append of frames onto frames. -/
theorem append_frames_run {w : World} {F F' : Nat → Prop} {mv xv : Value} {xs ys : List Fr} (h : Own 44 6 VFr w F mv xs) (hx : Own 44 6 VFr w F' xv ys) (hFF : ∀ k, k < w.heap.size → F' k → F k) (hap : ∀ k, mv.ownBlock = some k → ¬ F' k) (hF : F w.heap.size) (hm : xs.length + ys.length ≤ 1000000) (ty : TypeId) :
    ∃ v' w', (Builtin.append_ #[31, 31] ty #[mv, xv]).run Try.prog w = .ok v' w' ∧ Own 44 6 VFr w' F v' (xs ++ ys) ∧ Kept (fun k => mv.ownBlock = some k) w w' := by
  obtain ⟨cs, ho, h1, h2, h3⟩ := hx
  rcases id ho.2 with ⟨rfl, h0⟩ | ⟨g, cap, cur, rfl, hg, hh, hnc, hcm, hs, htake⟩
  · obtain rfl : ys = [] := List.eq_nil_of_length_eq_zero h0
    obtain ⟨cs', ho', _⟩ := id h
    obtain ⟨hsz, ht, i, z, hi, hz, hsize, hby, hzs⟩ := elem_fr
    exact ⟨mv, w, run_append_owned_none (P := Try.prog) (w := w) 0 31 ty 44 i 6 ht hi mv _ _ ho', by rw [List.append_nil]; exact h, Kept.refl _ _⟩
  · obtain ⟨v', w', hr, hown, hK, _⟩ := append_items_run stays_fr elem_fr h (ad := ⟨g, 0, Option.none⟩) (news := cs) (ys := ys) (ho.cells (g := g) rfl) ho.1 h2 (fun i hi => ⟨(h3 i hi).1, fun j k hj hk => by
      obtain ⟨a, b, c⟩ := (h3 i hi).2 j k hj hk
      exact ⟨a, fun e => hap k e c, hFF k a c⟩⟩) hF (by unfold maxLen; omega) (by omega) ty cap
    exact ⟨v', w', hr, hown, hK⟩

theorem wpList_append_frames {ops : Array Oper} {rest : List Oper} {o : Oper} {a : Act} {w : World} {Q : Exit → Act → World → Prop} (hgd : o.guard = none) (s x : Operand)
    (ho : o.op = .call { callee := .builtin .append, args := #[s, x], argTypes := #[31, 31] })
    {F F' : Nat → Prop} {mv xv : Value} {xs ys : List Fr} (hs : a.eval s = mv) (h : Own 44 6 VFr w F mv xs) (hxe : a.eval x = xv) (hx : Own 44 6 VFr w F' xv ys) (hFF : ∀ k, k < w.heap.size → F' k → F k) (hap : ∀ k, mv.ownBlock = some k → ¬ F' k) (hF : F w.heap.size) (hm : xs.length + ys.length ≤ 1000000)
    (hk : ∀ v' w', Own 44 6 VFr w' F v' (xs ++ ys) → Kept (fun k => mv.ownBlock = some k) w w' → wpList Try.prog ops Q rest (a.put o.dst v') w') : wpList Try.prog ops Q (o :: rest) a w := by
  refine wpList_plain hgd fun K' hK => ?_
  obtain ⟨v', w', hr, h2, h3⟩ := append_frames_run h hx hFF hap hF hm o.type
  unfold Oper.wp
  simp [execOp, ho, resolve, invoke, builtin, hs, hxe, hr, Result.andThen]
  exact hK _ _ (hk v' w' h2 h3)
end Go.Proofs.Ytabadlgjocgkjaa
