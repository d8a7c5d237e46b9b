/-
  RingReads is proved in full, tied to the program text: for every text the call returns true, and it reads afterwards as it read before. Condition: the card own (the variables that the text of the program lays).
-/
import Derived.Test.YtohkpihjkaffoaaDoorLReads
import Derived.Test.YtohkpihjkaffoaaDoorOp
import Derived.Test.YtohkpihjkaffoaaDoorAw
import Derived.ChangeMaps5
import Derived.JoinedOf
import Derived.JoinedAt
import Derived.JoinedCond
import Derived.Deep.DeepHandedRow
namespace Go.Proofs.YtohkpihjkaffoaaDoor
namespace ringReads
open Go.ChangeShapes Go.WideShapes Go.ChangeAt Go.RowKit
set_option linter.unusedVariables false

set_option maxRecDepth 100000 in
set_option maxHeartbeats 1000000 in
theorem contract (H : Type) (enc : TypeId × Value → H) (W : World) (base : Nat) (args : Array Value) (ds gs : List (DataW H)) (before : List MemPlace)
    (hval : ∀ (j : Nat) t v, Tryd.f4.params[j]? = some t → args[j]? = some v → Value.okWide Tryd.prog W .any base t v)
    (hW : DataW.Whole enc Tryd.prog Tryd.f4.params.toList Rows.ringReadsSpec.vars false W args.toList ds gs before) (hL : laidMetH Tryd.prog Rows.ringReadsRow.laid W) :
    Calls Tryd.prog 4 args W fun e W' => ∃ v, e = .returned v ∧ Rows.ringReadsSpec.post enc Tryd.prog Tryd.f4 false true false false W args v W' := by
  have hW' := hW
  obtain ⟨p, q, hA0, hV, rfl, hfz, hnd⟩ := hW
  have hA : DataW.TrodAll enc Tryd.prog W 0 (fun _ => true) true Tryd.f4.params.toList args.toList ds p := hA0
  rw [Tryd.params4] at hA hval
  obtain ⟨v0, vs0, d0, ds0, p0, q0, hargs, rfl, rfl, h0, r0⟩ := trodAll_cons hA
  obtain ⟨rfl, rfl, rfl⟩ := trodAll_nil r0
  obtain rfl : args = #[v0] := by cases args; simp_all
  obtain ⟨rfl, rfl⟩ := trodVars_none hV
  have k0 := h0
  have lt0 : ∀ x ∈ p0, x.block < W.heap.size := by obtain ⟨m, hm⟩ := k0; exact DataW.trod_lt m _ _ _ hm
  obtain ⟨s0, rfl, rfl, rfl, sm0⟩ := Go.ChangeMaps.open_string Tryd.underlying9 (hval 0 9 v0 rfl rfl) h0
  clear hA0
  refine (reads_walk awake_any (sents_of_laid hL) sm0).mono fun e W' ⟨he, bel⟩ => ?_
  subst he
  exact ⟨_, rfl, _, _, _, [], _, [], hW', trodAll_mk1 (shut_bool Tryd.underlying4 _), (trodAll_cons_mk (Below.trod laidOut (by kernel_rfl) (of_decide_eq_true (by kernel_rfl)) k0 bel lt0) trodAll_mk0), rfl, bel.frame _, fun h => by cases h⟩

theorem laid_met {os : Os} {lw : World} (hW : IsLaid os lw) : laidMet Tryd.prog Rows.ringReadsRow.laid (lw.forCall (fun _ _ => 0) ⟨#[], #[.string ⟨#[]⟩], []⟩).memory :=
  laidWorld_met hW _
theorem reads {os : Os} {lw : World} (hW : IsLaid os lw) {H : Type} (enc : TypeId × Value → H) : ∃ places, DataW.whole enc Tryd.prog (lw.forCall (fun _ _ => 0) ⟨#[], #[.string ⟨#[]⟩], []⟩).memory Tryd.f4.params.toList Rows.ringReadsSpec.vars false (#[.string ⟨#[]⟩] : Array Value).toList 8 = some ([.lit (.string [])], [], places) :=
  by
  unfold IsLaid at hW
  subst hW
  exact ⟨[], by kernel_rfl⟩

set_option maxRecDepth 100000 in
theorem lifted (os : Os) (started : os.Started) (H : Type) (enc : TypeId × Value → H) (F : Stop.Interp) :
    ReturnsInHanded {} Tryd.checked os 4 .any ((OpenSpec.ofChange Rows.ringReadsSpec).preRow enc Tryd.prog Tryd.f4 Rows.ringReadsRow.domain false Rows.ringReadsRow.laid) (((OpenSpec.ofChange Rows.ringReadsSpec).at F).post enc Tryd.prog Tryd.f4 false true false false) := by
  obtain ⟨lw, hW⟩ := laid_there os
  obtain ⟨places, hx⟩ := reads hW enc
  refine returnsInHanded_of_row (C := Tryd.checked) (s := (OpenSpec.ofChange Rows.ringReadsSpec)) own started (by kernel_rfl) Tryd.func4
    (witness_row_at (enc := enc) (C := Tryd.checked) false lw #[.string ⟨#[]⟩] (by unfold IsLaid at hW; subst hW; rfl) (by unfold IsLaid at hW; subst hW; kernel_rfl) (by unfold IsLaid at hW; subst hW; kernel_rfl) (by unfold IsLaid at hW; subst hW; kernel_rfl)
      (OpenSpec.preRow_of_cond 8 hx (by kernel_rfl) (fun k hk => by cases hk) (by kernel_rfl) (laid_met hW))) ?_
  intro W base args ds gs before hval hW _ hcond _ hL _ _
  exact contract H enc W base args ds gs before hval hW hL

theorem said : Rows.RingReadsSaid :=
  OpenClaim.holds_of_cond 4 Tryd.f4 rfl rfl rfl rfl rfl rfl rfl ⟨rfl, rfl, rfl, rfl, rfl⟩ rfl rfl rfl rfl rfl (by kernel_rfl) Tryd.func4 (by kernel_rfl)
    (of_decide_eq_true (by kernel_rfl)) (by unfold Func.isWrapper; first | (rw [if_pos (by decide +kernel)]; kernel_rfl) | (rw [if_neg (by decide +kernel)]; exact ⟨rfl, rfl⟩))
    (fun os started H enc _ F => by rw [OpenClaim.pre_eq_preRow]; exact lifted os started H enc F)

theorem stands : ∀ t ∈ Tryd.f4.params, Tryd.prog.wantsStandIn t = false := by
  rw [Tryd.params4]
  intro t ht
  simp at ht
  subst ht
  kernel_rfl

theorem plain (f : FuncId) (fn : Func) (hf : Tryd.pinned.checked.prog.funcNamed Rows.ringReadsRow.func = some f) (hfn : Tryd.pinned.checked.prog.funcs[f]? = some fn) :
    true = Tryd.pinned.checked.prog.looks [] ∧ ∀ (j : Nat) t, fn.params[j]? = some t → Tryd.pinned.checked.prog.wantsStandIn t = false := by
  obtain rfl : f = 4 := Option.some.inj ((show Tryd.prog.funcNamed Rows.ringReadsRow.func = some 4 by kernel_rfl).symm.trans hf) |>.symm
  obtain rfl : fn = Tryd.f4 := (Option.some.inj (Tryd.func4.symm.trans hfn)).symm
  exact ⟨looks_on, fun j t ht => stands t (Array.mem_of_getElem? ht)⟩
end ringReads

/-- The statement. -/
theorem ringReads_holds : Rows.RingReadsCardSaid :=
  Claim7.holds_tied_plain_at .later [] _ _ _ _ ringReads.said (fun _ h => by cases h) (by kernel_rfl) (fun _ h => by cases h) ringReads_row_tie rfl ⟨rfl, rfl⟩ (by kernel_rfl) rfl ringReads.plain (by kernel_rfl)
#print axioms ringReads_holds
end Go.Proofs.YtohkpihjkaffoaaDoor

