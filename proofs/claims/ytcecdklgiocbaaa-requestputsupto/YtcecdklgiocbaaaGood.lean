/-
  What is read depends on its own bytes alone; cut anywhere it ends too early: of parsers, and of bodies.
-/
import Derived.Test.YtcecdklgiocbaaaRdMath
namespace Go.Proofs.Ytcecdklgiocbaaa
open Go.RowKit
set_option maxRecDepth 100000
set_option linter.unusedVariables false
set_option linter.unusedSimpArgs false

def Good {α : Type} (p : Ps α) : Prop := ∀ zs, (p zs).err = 0 → (p zs).done ≤ zs.length ∧ (∀ xs : List Int, (p zs).done ≤ xs.length → xs.take (p zs).done = zs.take (p zs).done → p xs = p zs) ∧ ∀ n, n < (p zs).done → (p (zs.take n)).err = 10

theorem good_pure {α : Type} (a : α) : Good (pureR a) := fun zs _ => ⟨Nat.zero_le _, fun xs _ _ => rfl, fun n hn => absurd hn (Nat.not_lt_zero n)⟩
theorem good_fail {α : Type} [Inhabited α] {e : Int} (he : e ≠ 0) : Good (failR e : Ps α) := fun zs h => absurd h he

theorem good_num (n : Nat) : Good (numR n) := by
  intro zs h
  by_cases hl : zs.length < n
  · unfold numR at h; rw [if_pos hl] at h; exact absurd h (by decide : ¬ (10 : Int) = 0)
  · have e : numR n zs = ⟨numTo zs n, n, 0⟩ := by unfold numR; rw [if_neg hl]
    rw [e]
    refine ⟨by simp only; omega, fun xs hx ht => ?_, fun k hk => ?_⟩
    · simp only at hx ht
      unfold numR
      rw [if_neg (by omega)]
      unfold numTo
      rw [ht]
    · simp only at hk
      unfold numR
      rw [if_pos (by rw [List.length_take]; omega)]

theorem good_take (n : Nat) : Good (takeR n) := by
  intro zs h
  by_cases hl : zs.length < n
  · unfold takeR at h; rw [if_pos hl] at h; exact absurd h (by decide : ¬ (10 : Int) = 0)
  · have e : takeR n zs = ⟨zs.take n, n, 0⟩ := by unfold takeR; rw [if_neg hl]
    rw [e]
    refine ⟨by simp only; omega, fun xs hx ht => ?_, fun k hk => ?_⟩
    · simp only at hx ht
      unfold takeR
      rw [if_neg (by omega), ht]
    · simp only at hk
      unfold takeR
      rw [if_pos (by rw [List.length_take]; omega)]

theorem good_bind {α β : Type} [Inhabited β] {p : Ps α} {f : α → Ps β} (hp : Good p) (hf : ∀ a, Good (f a)) : Good (bindR p f) := by
  intro zs h
  by_cases h1 : (p zs).err = 0
  · by_cases h2 : (f (p zs).val (zs.drop (p zs).done)).err = 0
    · have e : bindR p f zs = ⟨(f (p zs).val (zs.drop (p zs).done)).val, (p zs).done + (f (p zs).val (zs.drop (p zs).done)).done, 0⟩ := by unfold bindR; rw [if_pos h1, if_pos h2]
      obtain ⟨a1, a2, a3⟩ := hp zs h1
      obtain ⟨b1, b2, b3⟩ := hf _ _ h2
      rw [List.length_drop] at b1
      rw [e]
      refine ⟨by simp only; omega, fun xs hx ht => ?_, fun n hn => ?_⟩
      · simp only at hx ht
        have c1 : p xs = p zs := a2 xs (by omega) (by
          have := congrArg (List.take (p zs).done) ht
          rw [List.take_take, List.take_take] at this
          rw [show min (p zs).done ((p zs).done + (f (p zs).val (zs.drop (p zs).done)).done) = (p zs).done by omega] at this
          exact this)
        have c2 : f (p zs).val (xs.drop (p zs).done) = f (p zs).val (zs.drop (p zs).done) := b2 _ (by rw [List.length_drop]; omega) (by
          have := congrArg (List.drop (p zs).done) ht
          rw [List.drop_take, List.drop_take] at this
          rw [show (p zs).done + (f (p zs).val (zs.drop (p zs).done)).done - (p zs).done = (f (p zs).val (zs.drop (p zs).done)).done by omega] at this
          exact this)
        unfold bindR
        rw [c1, c2, if_pos h1, if_pos h2]
      · simp only at hn
        by_cases hd : n < (p zs).done
        · have := a3 n hd
          unfold bindR
          rw [if_neg (by rw [this]; decide)]
          exact this
        · have c1 : p (zs.take n) = p zs := a2 _ (by rw [List.length_take]; omega) (by rw [List.take_take]; congr 1; omega)
          have c2 : (f (p zs).val ((zs.take n).drop (p zs).done)).err = 10 := by rw [List.drop_take]; exact b3 _ (by omega)
          unfold bindR
          rw [c1, if_pos h1, if_neg (by rw [c2]; decide)]
          exact c2
    · unfold bindR at h; rw [if_pos h1, if_neg h2] at h; exact absurd h h2
  · unfold bindR at h; rw [if_neg h1] at h; exact absurd h h1

theorem good_ite {α : Type} {c : Prop} [Decidable c] {p q : Ps α} (hp : Good p) (hq : Good q) : Good (if c then p else q) := by
  by_cases h : c
  · rw [if_pos h]; exact hp
  · rw [if_neg h]; exact hq
theorem good_opt {α : Type} [Inhabited α] (b : Bool) {p : Ps α} (hp : Good p) : Good (optR b p) := good_ite hp (good_pure _)
theorem good_check {α : Type} [Inhabited α] (bad : α → Bool) {e : Int} (he : e ≠ 0) {p : Ps α} (hp : Good p) : Good (checkR bad e p) := good_bind hp (fun a => good_ite (good_fail he) (good_pure _))

theorem text_bind : textR = bindR (numR 2) fun n => bindR (takeR n.toNat) fun b => pureR (strOfNums b) := by
  funext zs
  unfold bindR numR textR textA
  by_cases hl : zs.length < 2
  · simp [hl]; rfl
  · simp only [hl, if_false]
    rw [if_pos trivial]
    by_cases hs : ((zs.length - 2 : Nat) : Int) < numTo zs 2
    · have : zs.length - 2 < (numTo zs 2).toNat := by omega
      simp [hs, takeR, this]; rfl
    · have : ¬ zs.length - 2 < (numTo zs 2).toNat := by omega
      simp [hs, takeR, this, pureR]

theorem long_bind : longR = bindR (numR 4) fun n => if sgn n 4 < 0 then failR 11 else bindR (takeR (sgn n 4).toNat) fun b => pureR (strOfNums b) := by
  funext zs
  unfold bindR numR longR longA int4
  by_cases hl : zs.length < 4
  · simp [hl]; rfl
  · simp only [hl, if_false]
    rw [if_pos trivial]
    by_cases hg : sgn (numTo zs 4) 4 < 0
    · simp [hg, failR]; rfl
    · by_cases hs : ((zs.length - 4 : Nat) : Int) < sgn (numTo zs 4) 4
      · have : zs.length - 4 < (sgn (numTo zs 4) 4).toNat := by omega
        simp [hg, hs, takeR, this]; rfl
      · have : ¬ zs.length - 4 < (sgn (numTo zs 4) 4).toNat := by omega
        simp [hg, hs, takeR, this, pureR]

theorem value_bind : valueR = bindR (numR 4) fun n => if sgn n 4 < -2 then failR 11 else if sgn n 4 = -2 then pureR (1, strOfNums []) else if sgn n 4 = -1 then pureR (0, strOfNums []) else bindR (takeR (sgn n 4).toNat) fun b => pureR (2, strOfNums b) := by
  funext zs
  unfold bindR numR valueR valueA int4
  by_cases hl : zs.length < 4
  · simp [hl]; rfl
  · simp only [hl, if_false]
    rw [if_pos trivial]
    by_cases hg : sgn (numTo zs 4) 4 < -2
    · simp [hg, failR]; rfl
    · by_cases hu : sgn (numTo zs 4) 4 = -2
      · simp [hu, pureR]
      · by_cases hv : sgn (numTo zs 4) 4 = -1
        · simp [hv, pureR]
        · by_cases hs : ((zs.length - 4 : Nat) : Int) < sgn (numTo zs 4) 4
          · have : zs.length - 4 < (sgn (numTo zs 4) 4).toNat := by omega
            simp [hg, hu, hv, hs, takeR, this]; rfl
          · have : ¬ zs.length - 4 < (sgn (numTo zs 4) 4).toNat := by omega
            simp [hg, hu, hv, hs, takeR, this, pureR]

theorem key_bind {α : Type} [Inhabited α] (q : Ps α) (zs : List Int) : (keyR q zs).err = (bindR textR (fun t => bindR q fun v => pureR (t, v)) zs).err ∧ (keyR q zs).done = (bindR textR (fun t => bindR q fun v => pureR (t, v)) zs).done ∧ ((keyR q zs).err = 0 → keyR q zs = bindR textR (fun t => bindR q fun v => pureR (t, v)) zs) := by
  unfold keyR bindR
  by_cases h1 : (textR zs).err = 0
  · by_cases h2 : (q (zs.drop (textR zs).done)).err = 0
    · simp [h1, h2, pureR]
    · simp [h1, h2, pureR]
  · simp [h1]

theorem good_like {α : Type} {p q : Ps α} (h : ∀ zs, (p zs).err = (q zs).err ∧ (p zs).done = (q zs).done ∧ ((p zs).err = 0 → p zs = q zs)) (hq : Good q) : Good p := by
  intro zs he
  obtain ⟨e1, e2, e3⟩ := h zs
  obtain ⟨a1, a2, a3⟩ := hq zs (by rw [← e1]; exact he)
  rw [e2]
  refine ⟨a1, fun xs hx ht => ?_, fun n hn => ?_⟩
  · have c := a2 xs hx ht
    obtain ⟨f1, f2, f3⟩ := h xs
    rw [e3 he, ← c]
    exact f3 (by rw [f1, c, ← e1]; exact he)
  · obtain ⟨f1, _, _⟩ := h (zs.take n)
    rw [f1]
    exact a3 n hn

def manyR {α : Type} (p : Ps α) : Nat → Ps (List α)
  | 0 => pureR []
  | n + 1 => bindR p fun x => bindR (manyR p n) fun r => pureR (x :: r)

theorem go_many {α : Type} (p : Ps α) (zs : List Int) : ∀ (n d : Nat) (acc : List α), goR p zs n d acc = (if (manyR p n (zs.drop d)).err = 0 then ⟨acc ++ (manyR p n (zs.drop d)).val, d + (manyR p n (zs.drop d)).done, 0⟩ else ⟨[], 0, (manyR p n (zs.drop d)).err⟩) := by
  intro n
  induction n with
  | zero => intro d acc; simp [goR, manyR, pureR]
  | succ n ih =>
    intro d acc
    rw [goR, manyR]
    unfold bindR
    by_cases h1 : (p (zs.drop d)).err = 0
    · rw [if_pos h1, if_pos h1, ih, List.drop_drop]
      by_cases h2 : (manyR p n (zs.drop (d + (p (zs.drop d)).done))).err = 0
      · simp [h2, pureR, Nat.add_assoc]
      · simp [h2]
    · rw [if_neg h1, if_neg h1]
      simp [h1]

theorem list_bind {α : Type} (p : Ps α) : listR p = bindR (numR 2) fun n => manyR p n.toNat := by
  funext zs
  unfold listR bindR numR
  by_cases hl : zs.length < 2
  · simp [hl]; rfl
  · simp only [hl, if_false]
    rw [if_pos trivial, go_many]
    by_cases h2 : (manyR p (numTo zs 2).toNat (zs.drop 2)).err = 0
    · simp [h2]
    · simp [h2]; rfl

theorem good_many {α : Type} {p : Ps α} (hp : Good p) : ∀ n, Good (manyR p n)
  | 0 => good_pure _
  | n + 1 => good_bind hp (fun x => good_bind (good_many hp n) (fun r => good_pure _))
theorem good_list {α : Type} {p : Ps α} (hp : Good p) : Good (listR p) := by rw [list_bind]; exact good_bind (good_num 2) (fun n => good_many hp _)
theorem good_text : Good textR := by rw [text_bind]; exact good_bind (good_num 2) (fun n => good_bind (good_take _) (fun b => good_pure _))
theorem good_long : Good longR := by rw [long_bind]; exact good_bind (good_num 4) (fun n => good_ite (good_fail (by decide)) (good_bind (good_take _) (fun b => good_pure _)))
theorem good_value : Good valueR := by
  rw [value_bind]
  exact good_bind (good_num 4) (fun n => good_ite (good_fail (by decide)) (good_ite (good_pure _) (good_ite (good_pure _) (good_bind (good_take _) (fun b => good_pure _)))))
theorem good_key {α : Type} [Inhabited α] {q : Ps α} (hq : Good q) : Good (keyR q) := good_like (key_bind q) (good_bind good_text (fun t => good_bind hq (fun v => good_pure _)))
theorem good_cons : Good consR := good_check _ (by decide) (good_num 2)
theorem good_kind : Good kindR := good_check _ (by decide) (good_num 1)
theorem good_flags (b : Bool) : Good (flagsR b) := good_check _ (by decide) (good_num 1)
theorem good_sgn (n : Nat) : Good (sgnR n) := good_bind (good_num n) (fun x => good_pure _)
theorem good_vals (named : Bool) : Good (valsR named) := good_ite (good_bind (good_list (good_key good_value)) (fun L => good_pure _)) (good_bind (good_list good_value) (fun L => good_pure _))
theorem good_vals1 (named : Bool) : Good (valsR1 named) := good_check _ (by decide) (good_vals named)
theorem good_st : Good stR := good_bind (good_num 1) (fun k => good_ite (good_bind good_long (fun t => good_bind (good_list good_value) (fun vs => good_pure _))) (good_ite (good_bind good_text (fun i => good_bind (good_list good_value) (fun vs => good_pure _))) (good_fail (by decide))))
theorem good_run (batch : Bool) : Good (runR batch) :=
  good_bind good_cons (fun c => good_bind (good_flags batch) (fun x => good_bind (good_opt _ (good_vals1 _)) (fun vn => good_bind (good_opt _ (good_sgn 4)) (fun pg => good_bind (good_opt _ good_value) (fun st => good_bind (good_opt _ good_cons) (fun sr => good_bind (good_opt _ (good_sgn 8)) (fun tm => good_pure _)))))))
theorem good_get (op : Int) : Good (getR op) := by
  unfold getR
  exact good_ite (good_bind (good_list (good_key good_text)) (fun o => good_pure _)) (good_ite (good_pure _) (good_ite (good_bind good_long (fun t => good_bind (good_run _) (fun r => good_pure _))) (good_ite (good_bind good_long (fun t => good_pure _)) (good_ite (good_bind good_text (fun t => good_bind (good_run _) (fun r => good_pure _)))
    (good_ite (good_bind (good_list good_text) (fun es => good_pure _)) (good_ite (good_bind good_value (fun tk => good_pure _)) (good_ite (good_bind good_kind (fun k => good_bind (good_list good_st) (fun a => good_bind (good_run _) (fun r => good_pure _)))) (good_fail (by decide)))))))))

theorem get_whole {op : Int} {zs : List Int} (h : getE op zs = 0) : (getR op zs).err = 0 ∧ (getR op zs).done = zs.length := by
  unfold getE at h
  by_cases h1 : (getR op zs).err = 0
  · rw [if_pos h1] at h
    by_cases h2 : (getR op zs).done < zs.length
    · rw [if_pos h2] at h; exact absurd h (by decide)
    · exact ⟨h1, by have := (good_get op zs h1).1; omega⟩
  · rw [if_neg h1] at h; exact absurd h h1

theorem get_more {op : Int} {zs : List Int} (h : getE op zs = 0) (m : Int) : getE op (zs ++ [m]) = 23 := by
  obtain ⟨h1, h2⟩ := get_whole h
  obtain ⟨_, g2, _⟩ := good_get op zs h1
  have e := g2 (zs ++ [m]) (by rw [h2]; simp) (by rw [h2, List.take_left, List.take_length])
  unfold getE
  rw [e, if_pos h1, if_pos (by rw [h2]; simp)]

theorem get_cut {op : Int} {zs : List Int} (h : getE op zs = 0) {n : Nat} (hn : n < zs.length) : getE op (zs.take n) = 10 := by
  obtain ⟨h1, h2⟩ := get_whole h
  obtain ⟨_, _, g3⟩ := good_get op zs h1
  have e := g3 n (by rw [h2]; exact hn)
  unfold getE
  rw [if_neg (by rw [e]; decide), e]
end Go.Proofs.Ytcecdklgiocbaaa
