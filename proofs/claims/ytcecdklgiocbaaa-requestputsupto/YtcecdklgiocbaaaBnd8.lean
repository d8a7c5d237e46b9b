/-
  What is read is no longer than what it is read of; so what was read may be put.
-/
import Derived.Test.YtcecdklgiocbaaaMir5
import Derived.Test.YtcecdklgiocbaaaTold8
import Derived.Test.YtcecdklgiocbaaaOpen8
namespace Go.Proofs.Ytcecdklgiocbaaa
open Go.RowKit
set_option maxRecDepth 100000
set_option linter.unusedVariables false
set_option linter.unusedSimpArgs false

def Bn {α : Type} (n : Nat) (p : Ps α) (Q : α → Prop) : Prop := ∀ zs, Rng zs → zs.length ≤ n → (p zs).err = 0 → Q (p zs).val

theorem bn_bind {α β : Type} [Inhabited β] {n : Nat} {p : Ps α} {g : α → Ps β} {Q1 : α → Prop} {Q : β → Prop} (hp : Bn n p Q1) (hg : ∀ a, Q1 a → Bn n (g a) Q) : Bn n (bindR p g) Q := by
  intro zs hr hl h
  by_cases h1 : (p zs).err = 0
  · by_cases h2 : (g (p zs).val (zs.drop (p zs).done)).err = 0
    · have e : (bindR p g zs).val = (g (p zs).val (zs.drop (p zs).done)).val := by unfold bindR; rw [if_pos h1, if_pos h2]
      rw [e]
      exact hg _ (hp zs hr hl h1) _ (rng_drop hr _) (by rw [List.length_drop]; omega) h2
    · unfold bindR at h; rw [if_pos h1, if_neg h2] at h; exact absurd h h2
  · unfold bindR at h; rw [if_neg h1] at h; exact absurd h h1
theorem bn_pure {α : Type} {n : Nat} {a : α} {Q : α → Prop} (h : Q a) : Bn n (pureR a) Q := fun _ _ _ _ => h
theorem bn_fail {α : Type} [Inhabited α] {n : Nat} {e : Int} (he : e ≠ 0) {Q : α → Prop} : Bn n (failR e : Ps α) Q := fun _ _ _ h => absurd h he
theorem bn_any {α : Type} {n : Nat} (p : Ps α) : Bn n p (fun _ => True) := fun _ _ _ _ => trivial
theorem bn_ite {α : Type} {n : Nat} {c : Prop} [Decidable c] {p q : Ps α} {Q : α → Prop} (hp : Bn n p Q) (hq : Bn n q Q) : Bn n (if c then p else q) Q := by
  by_cases h : c
  · rw [if_pos h]; exact hp
  · rw [if_neg h]; exact hq
theorem bn_opt {α : Type} [Inhabited α] {n : Nat} (b : Bool) {p : Ps α} {Q : α → Prop} (hp : Bn n p Q) (h0 : Q default) : Bn n (optR b p) Q := bn_ite hp (bn_pure h0)
theorem bn_check {α : Type} [Inhabited α] {n : Nat} {bad : α → Bool} {e : Int} (he : e ≠ 0) {p : Ps α} {Q : α → Prop} (hp : Bn n p Q) : Bn n (checkR bad e p) Q :=
  bn_bind hp (fun a ha => bn_ite (bn_fail he) (bn_pure ha))

theorem bn_num2 {n : Nat} : Bn n (numR 2) (fun x => 0 ≤ x ∧ x ≤ 65535) := by
  intro zs hr _ h
  by_cases hl : zs.length < 2
  · unfold numR at h; rw [if_pos hl] at h; exact absurd h (by decide : ¬ (10 : Int) = 0)
  · have e : numR 2 zs = ⟨numTo zs 2, 2, 0⟩ := by unfold numR; rw [if_neg hl]
    rw [e]
    have := numTo_bound zs hr 2 (by omega)
    have h4 : (256 : Int) ^ 2 = 65536 := by decide
    exact ⟨this.1, by simp only; omega⟩
theorem bn_take {n : Nat} (k : Nat) : Bn n (takeR k) (fun X => X.length ≤ n) := by
  intro zs hr hn h
  by_cases hl : zs.length < k
  · unfold takeR at h; rw [if_pos hl] at h; exact absurd h (by decide : ¬ (10 : Int) = 0)
  · have e : takeR k zs = ⟨zs.take k, k, 0⟩ := by unfold takeR; rw [if_neg hl]
    rw [e]
    show (zs.take k).length ≤ n
    rw [List.length_take]; omega
theorem bn_text {n : Nat} : Bn n textR (fun s => s.size ≤ n) := by
  rw [text_bind]
  exact bn_bind (bn_any _) (fun k _ => bn_bind (bn_take _) (fun b hb => bn_pure (by rw [strOfNums_size]; exact hb)))
theorem bn_long {n : Nat} : Bn n longR (fun s => s.size ≤ n) := by
  rw [long_bind]
  exact bn_bind (bn_any _) (fun k _ => bn_ite (bn_fail (by decide)) (bn_bind (bn_take _) (fun b hb => bn_pure (by rw [strOfNums_size]; exact hb))))
theorem bn_value {n : Nat} : Bn n valueR (fun x => x.2.size ≤ n) := by
  rw [value_bind]
  exact bn_bind (bn_any _) (fun k _ => bn_ite (bn_fail (by decide)) (bn_ite (bn_pure (Nat.zero_le _)) (bn_ite (bn_pure (Nat.zero_le _)) (bn_bind (bn_take _) (fun b hb => bn_pure (by show (strOfNums b).size ≤ n; rw [strOfNums_size]; exact hb))))))
theorem bn_many {α : Type} {n : Nat} {p : Ps α} {Q : α → Prop} (hp : Bn n p Q) : ∀ k, Bn n (manyR p k) (fun xs => xs.length = k ∧ ∀ x ∈ xs, Q x)
  | 0 => bn_pure ⟨rfl, fun x hx => (by cases hx)⟩
  | k + 1 => bn_bind hp (fun x hx => bn_bind (bn_many hp k) (fun r hr => bn_pure ⟨by rw [List.length_cons, hr.1], fun y hy => by
      rcases List.mem_cons.1 hy with rfl | hy
      · exact hx
      · exact hr.2 y hy⟩))
theorem bn_list {α : Type} {n : Nat} {p : Ps α} {Q : α → Prop} (hp : Bn n p Q) : Bn n (listR p) (fun xs => xs.length ≤ 65535 ∧ ∀ x ∈ xs, Q x) := by
  rw [list_bind]
  exact bn_bind bn_num2 (fun k hk zs hr hl h => by
    have := bn_many hp k.toNat zs hr hl h
    exact ⟨by rw [this.1]; omega, this.2⟩)
theorem bn_key {α : Type} [Inhabited α] {n : Nat} {q : Ps α} {Q : α → Prop} (hq : Bn n q Q) : Bn n (keyR q) (fun y => y.1.size ≤ n ∧ Q y.2) := by
  intro zs hr hl h
  obtain ⟨e1, _, e3⟩ := key_bind q zs
  rw [e3 h]
  rw [e1] at h
  exact bn_bind (Q := fun y : ByteArray × α => y.1.size ≤ n ∧ Q y.2) bn_text (fun t ht => bn_bind hq (fun v hv => bn_pure ⟨ht, hv⟩)) zs hr hl h

/-- A run's parts are short. -/
structure ShR (n : Nat) (p : Rn) : Prop where
  vl : p.vals.length ≤ 65535
  vs : ∀ y ∈ p.vals, y.2.size ≤ n
  nl : p.names.length ≤ 65535
  ns : ∀ y ∈ p.names, y.size ≤ n
  st : p.state.2.size ≤ n

theorem bn_vals {n : Nat} (named : Bool) : Bn n (valsR1 named) (fun vn => (vn.1.length ≤ 65535 ∧ ∀ y ∈ vn.1, y.2.size ≤ n) ∧ (vn.2.length ≤ 65535 ∧ ∀ y ∈ vn.2, y.size ≤ n)) := by
  refine bn_check (by decide) (bn_ite ?_ ?_)
  · refine bn_bind (bn_list (bn_key bn_value)) (fun L hL => bn_pure ⟨⟨by rw [List.length_map]; exact hL.1, fun y hy => ?_⟩, by rw [List.length_map]; exact hL.1, fun y hy => ?_⟩)
    · obtain ⟨z, hz, rfl⟩ := List.mem_map.1 hy
      exact (hL.2 z hz).2
    · obtain ⟨z, hz, rfl⟩ := List.mem_map.1 hy
      exact (hL.2 z hz).1
  · exact bn_bind (bn_list bn_value) (fun L hL => bn_pure ⟨hL, Nat.zero_le _, fun y hy => (by cases hy)⟩)

theorem bn_run {n : Nat} (b : Bool) : Bn n (runR b) (ShR n) :=
  bn_bind (bn_any _) (fun c _ => bn_bind (bn_any _) (fun x _ => bn_bind (bn_opt _ (bn_vals _) ⟨⟨Nat.zero_le _, fun y hy => (by cases hy)⟩, Nat.zero_le _, fun y hy => (by cases hy)⟩) (fun vn hvn => bn_bind (bn_any _) (fun pg _ =>
    bn_bind (bn_opt (Q := fun st : Vl => st.2.size ≤ n) _ bn_value (Nat.zero_le _)) (fun st hst => bn_bind (bn_any _) (fun sr _ => bn_bind (bn_any _) (fun tm _ => bn_pure ⟨hvn.1.1, hvn.1.2, hvn.2.1, hvn.2.2, hst⟩)))))))

structure ShS (n : Nat) (s : St) : Prop where
  text : s.text.size ≤ n
  id : s.id.size ≤ n
  vl : s.vals.length ≤ 65535
  vs : ∀ y ∈ s.vals, y.2.size ≤ n
theorem bn_st {n : Nat} : Bn n stR (ShS n) :=
  bn_bind (bn_any _) (fun k _ => bn_ite (bn_bind bn_long (fun t ht => bn_bind (bn_list bn_value) (fun vs hvs => bn_pure ⟨ht, Nat.zero_le _, hvs.1, hvs.2⟩)))
    (bn_ite (bn_bind bn_text (fun t ht => bn_bind (bn_list bn_value) (fun vs hvs => bn_pure ⟨Nat.zero_le _, ht, hvs.1, hvs.2⟩))) (bn_fail (by decide))))

/-- A request's parts are short. -/
structure ShQ (n : Nat) (r : Rq) : Prop where
  opts : ∀ y ∈ r.opts, y.1.size ≤ n ∧ y.2.size ≤ n
  text : r.text.size ≤ n
  id : r.id.size ≤ n
  run : ShR n r.run
  evs : ∀ y ∈ r.evs, y.size ≤ n
  tok : r.tok.2.size ≤ n
  al : r.all.length ≤ 65535
  all : ∀ s ∈ r.all, ShS n s

theorem shR_0 (n : Nat) : ShR n (default : Rn) := ⟨Nat.zero_le _, fun y hy => (by cases hy), Nat.zero_le _, fun y hy => (by cases hy), Nat.zero_le _⟩
theorem shQ_0 (n : Nat) (op : Int) : ShQ n (rq0 op) := ⟨fun y hy => (by cases hy), Nat.zero_le _, Nat.zero_le _, shR_0 n, fun y hy => (by cases hy), Nat.zero_le _, Nat.zero_le _, fun y hy => (by cases hy)⟩

theorem bn_get {n : Nat} (op : Int) : Bn n (getR op) (ShQ n) := by
  unfold getR
  refine bn_ite (bn_bind (bn_list (bn_key bn_text)) (fun o ho => bn_pure ?_)) (bn_ite (bn_pure (shQ_0 n op)) (bn_ite (bn_bind bn_long (fun t ht => bn_bind (bn_run _) (fun r hr => bn_pure ?_))) (bn_ite (bn_bind bn_long (fun t ht => bn_pure ?_)) (bn_ite (bn_bind bn_text (fun t ht => bn_bind (bn_run _) (fun r hr => bn_pure ?_)))
    (bn_ite (bn_bind (bn_list bn_text) (fun es hes => bn_pure ?_)) (bn_ite (bn_bind bn_value (fun tk htk => bn_pure ?_)) (bn_ite (bn_bind (bn_any _) (fun k _ => bn_bind (bn_list bn_st) (fun a ha => bn_bind (bn_run _) (fun r hr => bn_pure ?_)))) (bn_fail (by decide)))))))))
  · exact ⟨ho.2, Nat.zero_le _, Nat.zero_le _, shR_0 n, fun y hy => (by cases hy), Nat.zero_le _, Nat.zero_le _, fun y hy => (by cases hy)⟩
  · exact ⟨fun y hy => (by cases hy), ht, Nat.zero_le _, hr, fun y hy => (by cases hy), Nat.zero_le _, Nat.zero_le _, fun y hy => (by cases hy)⟩
  · exact ⟨fun y hy => (by cases hy), ht, Nat.zero_le _, shR_0 n, fun y hy => (by cases hy), Nat.zero_le _, Nat.zero_le _, fun y hy => (by cases hy)⟩
  · exact ⟨fun y hy => (by cases hy), Nat.zero_le _, ht, hr, fun y hy => (by cases hy), Nat.zero_le _, Nat.zero_le _, fun y hy => (by cases hy)⟩
  · exact ⟨fun y hy => (by cases hy), Nat.zero_le _, Nat.zero_le _, shR_0 n, hes.2, Nat.zero_le _, Nat.zero_le _, fun y hy => (by cases hy)⟩
  · exact ⟨fun y hy => (by cases hy), Nat.zero_le _, Nat.zero_le _, shR_0 n, fun y hy => (by cases hy), htk, Nat.zero_le _, fun y hy => (by cases hy)⟩
  · exact ⟨fun y hy => (by cases hy), Nat.zero_le _, Nat.zero_le _, hr, fun y hy => (by cases hy), Nat.zero_le _, ha.1, ha.2⟩
end Go.Proofs.Ytcecdklgiocbaaa
