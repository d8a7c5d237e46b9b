/-
  What is read is put as it was: of parsers, one behind the other; of texts, values, lists, statements, runs; of a body.
-/
import Derived.Test.YtcecdklgiocbaaaGood
import Derived.Test.YtcecdklgiocbaaaRd2
import Derived.Test.YtcecdklgiocbaaaWr4
namespace Go.Proofs.Ytcecdklgiocbaaa
open Go.RowKit
set_option maxRecDepth 100000
set_option linter.unusedVariables false
set_option linter.unusedSimpArgs false

def Mir {α : Type} (p : Ps α) (f : α → BE) : Prop := ∀ zs, Rng zs → (p zs).err = 0 → f (p zs).val = (zs.take (p zs).done, 0)

theorem numTo_inj (A B : List Int) (hA : Rng A) (hB : Rng B) : ∀ k, k ≤ A.length → k ≤ B.length → numTo A k = numTo B k → ∀ i, i < k → A[i]?.getD 0 = B[i]?.getD 0 := by
  intro k
  induction k with
  | zero => intro _ _ _ i hi; omega
  | succ k ih =>
    intro h1 h2 h i hi
    rw [numTo_succ A k (by omega), numTo_succ B k (by omega)] at h
    have a := hA k
    have b := hB k
    have e : numTo A k = numTo B k := by omega
    have e2 : A[k]?.getD 0 = B[k]?.getD 0 := by omega
    by_cases hik : i < k
    · exact ih (by omega) (by omega) e i hik
    · obtain rfl : i = k := by omega
      exact e2

theorem putL_num (zs : List Int) (hr : Rng zs) (n : Nat) (h1 : 1 ≤ n) (h2 : n ≤ 8) (hl : n ≤ zs.length) : putL (numTo zs n) n = zs.take n := by
  have hb := numTo_bound zs hr n hl
  have e0 : numTo (putL (numTo zs n) n) n = numTo zs n := by
    have := numTo_putL (numTo zs n) n [] h1 h2
    rw [List.append_nil] at this
    rw [this]
    have h3 : (2 : Int) ^ (8 * n) = 256 ^ n := by rw [Int.pow_mul]; rfl
    rw [h3]
    exact Int.emod_eq_of_lt hb.1 hb.2
  have hlp : (putL (numTo zs n) n).length = n := putL_length _ _
  have hj := numTo_inj (putL (numTo zs n) n) zs (putL_range _ _) hr n (by omega) hl e0
  apply List.ext_getElem?
  intro i
  by_cases hi : i < n
  · have := hj i hi
    rw [List.getElem?_take_of_lt hi, List.getElem?_eq_getElem (by omega), List.getElem?_eq_getElem (by omega)]
    rw [List.getElem?_eq_getElem (by omega), List.getElem?_eq_getElem (by omega)] at this
    simpa using this
  · rw [List.getElem?_eq_none (by omega), List.getElem?_eq_none (by rw [List.length_take]; omega)]

theorem mir_num (n : Nat) (h1 : 1 ≤ n) (h2 : n ≤ 8) : Mir (numR n) (fun x => numB x n) := by
  intro zs hr h
  by_cases hl : zs.length < n
  · unfold numR at h; rw [if_pos hl] at h; exact absurd h (by decide : ¬ (10 : Int) = 0)
  · have e : numR n zs = ⟨numTo zs n, n, 0⟩ := by unfold numR; rw [if_neg hl]
    rw [e]
    show (putL (numTo zs n) n, 0) = _
    rw [putL_num zs hr n h1 h2 (by omega)]

theorem mir_pure {α : Type} (a : α) (f : α → BE) (hf : f a = ([], 0)) : Mir (pureR a) f := fun zs _ _ => by
  show f a = _
  rw [hf]; rfl
theorem mir_fail {α : Type} [Inhabited α] {e : Int} (he : e ≠ 0) (f : α → BE) : Mir (failR e : Ps α) f := fun zs _ h => absurd h he
theorem mir_ite {α : Type} {c : Prop} [Decidable c] {p q : Ps α} {f : α → BE} (hp : c → Mir p f) (hq : ¬ c → Mir q f) : Mir (if c then p else q) f := by
  by_cases h : c
  · rw [if_pos h]; exact hp h
  · rw [if_neg h]; exact hq h

theorem mir_bind {α β : Type} [Inhabited β] {p : Ps α} {g : α → Ps β} {f : β → BE} (f1 : α → BE) (f2 : α → β → BE) (hp : Mir p f1) (hg : ∀ a, Mir (g a) (f2 a))
    (hf : ∀ a zs, Rng zs → (g a zs).err = 0 → (f1 a).2 = 0 → (f2 a (g a zs).val).2 = 0 → f (g a zs).val = seqB (f1 a) (f2 a (g a zs).val)) : Mir (bindR p g) f := by
  intro zs hr h
  by_cases h1 : (p zs).err = 0
  · by_cases h2 : (g (p zs).val (zs.drop (p zs).done)).err = 0
    · have e : bindR p g zs = ⟨(g (p zs).val (zs.drop (p zs).done)).val, (p zs).done + (g (p zs).val (zs.drop (p zs).done)).done, 0⟩ := by unfold bindR; rw [if_pos h1, if_pos h2]
      have a1 := hp zs hr h1
      have a2 := hg _ _ (rng_drop hr _) h2
      rw [e]
      simp only
      rw [hf _ _ (rng_drop hr _) h2 (by rw [a1]) (by rw [a2]), a1, a2, seqB_ok rfl rfl, List.take_add]
    · unfold bindR at h; rw [if_pos h1, if_neg h2] at h; exact absurd h h2
  · unfold bindR at h; rw [if_neg h1] at h; exact absurd h h1

theorem mir_take (n : Nat) : Mir (takeR n) (fun X => (X, 0)) := by
  intro zs hr h
  by_cases hl : zs.length < n
  · unfold takeR at h; rw [if_pos hl] at h; exact absurd h (by decide : ¬ (10 : Int) = 0)
  · have e : takeR n zs = ⟨zs.take n, n, 0⟩ := by unfold takeR; rw [if_neg hl]
    rw [e]

/-- What is taken has so many bytes, and is bytes. -/
theorem take_facts {n : Nat} {zs : List Int} (hr : Rng zs) (h : (takeR n zs).err = 0) : (takeR n zs).val.length = n ∧ Rng (takeR n zs).val := by
  by_cases hl : zs.length < n
  · unfold takeR at h; rw [if_pos hl] at h; exact absurd h (by decide : ¬ (10 : Int) = 0)
  · have e : takeR n zs = ⟨zs.take n, n, 0⟩ := by unfold takeR; rw [if_neg hl]
    rw [e]
    exact ⟨by simp only [List.length_take]; omega, range_take hr n⟩

/-- What is got of bytes is put as it was. -/
def Puts {α : Type} (p : List Int → Res α) (f : α → List Int × Int) : Prop := ∀ zs : List Int, (∀ j : Nat, 0 ≤ zs[j]?.getD 0 ∧ zs[j]?.getD 0 ≤ 255) → (p zs).err = 0 → (p zs).done ≤ zs.length ∧ f (p zs).val = (zs.take (p zs).done, 0)

theorem putL_first (zs : List Int) (hr : ∀ j : Nat, 0 ≤ zs[j]?.getD 0 ∧ zs[j]?.getD 0 ≤ 255) (hl : 2 ≤ zs.length) : putL (numTo zs 2) 2 = zs.take 2 := by
  match zs, hl with
  | a :: b :: r, _ =>
    have h0 := hr 0
    have h1 := hr 1
    simp at h0 h1
    have e : numTo (a :: b :: r) 2 = a * 256 + b := by simp [numTo]
    rw [e]
    simp [putL, byteAt, List.range_succ]
    omega

theorem puts_text : Puts textR textB := by
  intro zs hr he
  unfold textR at he ⊢
  simp only at he ⊢
  unfold textA at he ⊢
  by_cases hl : zs.length < 2
  · rw [if_pos hl] at he; exact absurd he (by decide)
  · rw [if_neg hl] at he ⊢
    by_cases hn : ((zs.length - 2 : Nat) : Int) < numTo zs 2
    · rw [if_pos hn] at he; exact absurd he (by decide)
    · rw [if_neg hn]
      have hb := numTo_bound zs hr 2 (by omega)
      have h4 : (256 : Int) ^ 2 = 65536 := by decide
      obtain ⟨n, hn2⟩ := Int.eq_ofNat_of_zero_le hb.1
      have hp := putL_first zs hr (by omega)
      rw [hn2] at hn hb hp ⊢
      simp only [Int.toNat_natCast]
      have hsz : (strOfNums ((zs.drop 2).take n)).size = n := by rw [strOfNums_size, List.length_take, List.length_drop]; omega
      refine ⟨by omega, ?_⟩
      rw [textB, hsz, if_pos (by omega), sNums_strOfNums (range_take (range_drop hr 2) n), hp]
      congr 1
      rw [← List.take_add]

theorem goR_puts {α : Type} {p : List Int → Res α} {f : α → List Int × Int} (hf : Puts p f) (zs : List Int) (hr : ∀ j : Nat, 0 ≤ zs[j]?.getD 0 ∧ zs[j]?.getD 0 ≤ 255) :
    ∀ (n d : Nat) (acc : List α), d ≤ zs.length → (goR p zs n d acc).err = 0 → ∃ xs : List α, (goR p zs n d acc).val = acc ++ xs ∧ xs.length = n ∧ (∀ x ∈ xs, (f x).2 = 0) ∧ (goR p zs n d acc).done = d + (bodyB f xs).length ∧ (goR p zs n d acc).done ≤ zs.length ∧
      bodyB f xs = (zs.drop d).take (bodyB f xs).length := by
  intro n
  induction n with
  | zero => intro d acc hd _; exact ⟨[], by simp [goR], rfl, by simp, by simp [goR, bodyB], by simpa [goR] using hd, by simp [bodyB]⟩
  | succ n ih =>
    intro d acc hd he
    rw [goR] at he ⊢
    by_cases hx : (p (zs.drop d)).err = 0
    · rw [if_pos hx] at he ⊢
      obtain ⟨h1, h2⟩ := hf (zs.drop d) (range_drop hr d) hx
      rw [List.length_drop] at h1
      obtain ⟨xs, g1, g2, g3, g4, g5, g6⟩ := ih _ _ (by omega) he
      have hlen : (f (p (zs.drop d)).val).1.length = (p (zs.drop d)).done := by rw [h2]; simp; omega
      have hb : bodyB f ((p (zs.drop d)).val :: xs) = (zs.drop d).take (p (zs.drop d)).done ++ bodyB f xs := by rw [bodyB, bodyB, List.flatMap_cons, h2]
      refine ⟨(p (zs.drop d)).val :: xs, by rw [g1, List.append_assoc]; rfl, by rw [List.length_cons, g2], fun x hx2 => ?_, ?_, g5, ?_⟩
      · rcases List.mem_cons.1 hx2 with rfl | hx2
        · rw [h2]
        · exact g3 x hx2
      · rw [g4, hb, List.length_append, List.length_take, List.length_drop]; omega
      · rw [hb, List.length_append, List.length_take, List.length_drop, Nat.min_eq_left (by omega), List.take_add, List.drop_drop, ← g6]
    · rw [if_neg hx] at he
      exact absurd he hx

theorem puts_list {α : Type} {p : List Int → Res α} {f : α → List Int × Int} (hf : Puts p f) : Puts (listR p) (listB f) := by
  intro zs hr he
  unfold listR at he ⊢
  by_cases hl : zs.length < 2
  · rw [if_pos hl] at he; exact absurd he (by decide : ¬ (10 : Int) = 0)
  · rw [if_neg hl] at he ⊢
    have hb := numTo_bound zs hr 2 (by omega)
    have h4 : (256 : Int) ^ 2 = 65536 := by decide
    obtain ⟨n, hn2⟩ := Int.eq_ofNat_of_zero_le hb.1
    have hp := putL_first zs hr (by omega)
    rw [hn2] at hb hp he ⊢
    simp only [Int.toNat_natCast] at he ⊢
    obtain ⟨xs, g1, g2, g3, g4, g5, g6⟩ := goR_puts hf zs hr n 2 [] (by omega) he
    refine ⟨g5, ?_⟩
    rw [g1, g4, List.nil_append, listB, if_pos (by omega), g2, hp]
    have hgo : ∀ (ys : List α) (acc : List Int), (∀ x ∈ ys, (f x).2 = 0) → goB f ys acc = (acc ++ bodyB f ys, 0) := by
      intro ys
      induction ys with
      | nil => intro acc _; simp [goB, bodyB]
      | cons y r ih =>
        intro acc h
        rw [goB, if_pos (h y List.mem_cons_self), ih _ (fun x hx => h x (List.mem_cons_of_mem _ hx)), bodyB, bodyB, List.flatMap_cons, List.append_assoc]
    rw [hgo xs _ g3, List.take_add, ← g6]

theorem goR_err {α : Type} (p : List Int → Res α) (zs : List Int) : ∀ (n d : Nat) (acc : List α), (goR p zs n d acc).err ≠ 0 → (goR p zs n d acc).val = [] := by
  intro n
  induction n with
  | zero => intro d acc h; exact absurd rfl h
  | succ n ih =>
    intro d acc h
    rw [goR] at h ⊢
    split
    · rename_i hx
      rw [if_pos hx] at h
      exact ih _ _ h
    · rfl

theorem listR_err {α : Type} (p : List Int → Res α) (zs : List Int) (h : (listR p zs).err ≠ 0) : (listR p zs).val = [] := by
  unfold listR at h ⊢
  split
  · rfl
  · rename_i hl
    rw [if_neg hl] at h
    exact goR_err p zs _ _ _ h

theorem puts_of {α : Type} {p : Ps α} {f : α → BE} (gp : Good p) (hm : Mir p f) : Puts p f := fun zs hr he => ⟨(gp zs he).1, hm zs hr he⟩
theorem mir_of {α : Type} {p : Ps α} {f : α → BE} (h : Puts p f) : Mir p f := fun zs hr he => (h zs hr he).2
theorem mir_text : Mir textR textB := mir_of puts_text
theorem mir_list {α : Type} {p : Ps α} {f : α → BE} (gp : Good p) (hm : Mir p f) : Mir (listR p) (listB f) := mir_of (puts_list (puts_of gp hm))

theorem num4 {zs : List Int} (hr : Rng zs) (hl : ¬ zs.length < 4) : 0 ≤ numTo zs 4 ∧ numTo zs 4 < 4294967296 ∧ putL (numTo zs 4) 4 = zs.take 4 := by
  have hb := numTo_bound zs hr 4 (by omega)
  have h4 : (256 : Int) ^ 4 = 4294967296 := by decide
  exact ⟨hb.1, by omega, putL_num zs hr 4 (by omega) (by omega) (by omega)⟩

theorem int4_num (zs : List Int) (h0 : 0 ≤ numTo zs 4) (h1 : numTo zs 4 < 4294967296) : int4 zs = sig (numTo zs 4) := by
  unfold int4 sgn sig
  simp only [show 8 * 4 - 1 = 31 from rfl, show 8 * 4 = 32 from rfl]
  have e : numTo zs 4 % 2 ^ 32 = numTo zs 4 := by omega
  rw [e]
  split <;> split <;> omega

theorem mir_long : Mir longR longB := by
  intro zs hr he
  unfold longR at he ⊢
  simp only at he ⊢
  unfold longA at he ⊢
  by_cases hl : zs.length < 4
  · rw [if_pos hl] at he; exact absurd he (by decide)
  rw [if_neg hl] at he ⊢
  obtain ⟨n0, n1, np⟩ := num4 hr hl
  have hi := int4_num zs n0 n1
  by_cases hg : int4 zs < 0
  · rw [if_pos hg] at he; exact absurd he (by decide)
  rw [if_neg hg] at he ⊢
  by_cases hs : ((zs.length - 4 : Nat) : Int) < int4 zs
  · rw [if_pos hs] at he; exact absurd he (by decide)
  rw [if_neg hs]
  have hk : int4 zs = numTo zs 4 := by rw [hi] at hg ⊢; unfold sig at hg ⊢; split <;> rename_i h
                                       · rw [if_pos h] at hg; omega
                                       · rfl
  obtain ⟨k, hk2⟩ := Int.eq_ofNat_of_zero_le n0
  rw [hk] at hs ⊢
  rw [hk2] at hs np ⊢
  simp only [Int.toNat_natCast]
  have hsz : (strOfNums ((zs.drop 4).take k)).size = k := by rw [strOfNums_size, List.length_take, List.length_drop]; omega
  rw [longB, hsz, sNums_strOfNums (range_take (range_drop hr 4) k), np]
  congr 1
  rw [← List.take_add]

theorem mir_value : Mir valueR valueB := by
  intro zs hr he
  unfold valueR at he ⊢
  simp only at he ⊢
  unfold valueA at he ⊢
  by_cases hl : zs.length < 4
  · rw [if_pos hl] at he; exact absurd he (by decide)
  rw [if_neg hl] at he ⊢
  obtain ⟨n0, n1, np⟩ := num4 hr hl
  have hi := int4_num zs n0 n1
  by_cases hg : int4 zs < -2
  · rw [if_pos hg] at he; exact absurd he (by decide)
  rw [if_neg hg] at he ⊢
  by_cases hu : int4 zs = -2
  · rw [if_pos hu]
    have e : numTo zs 4 = 4294967294 := by rw [hi] at hu; unfold sig at hu; split at hu <;> omega
    rw [e] at np
    show ([255, 255, 255, 254], 0) = _
    rw [← np]
    decide +kernel
  rw [if_neg hu] at he ⊢
  by_cases hv : int4 zs = -1
  · rw [if_pos hv]
    have e : numTo zs 4 = 4294967295 := by rw [hi] at hv; unfold sig at hv; split at hv <;> omega
    rw [e] at np
    show ([255, 255, 255, 255], 0) = _
    rw [← np]
    decide +kernel
  rw [if_neg hv] at he ⊢
  by_cases hs : ((zs.length - 4 : Nat) : Int) < int4 zs
  · rw [if_pos hs] at he; exact absurd he (by decide)
  rw [if_neg hs]
  have hk : int4 zs = numTo zs 4 := by
    have h9 : sig (numTo zs 4) = if 2147483648 ≤ numTo zs 4 then numTo zs 4 - 4294967296 else numTo zs 4 := rfl
    rw [hi]
    rw [hi] at hg hu hv
    rw [h9] at hg hu hv ⊢
    split <;> rename_i h
    · rw [if_pos h] at hg hu hv; omega
    · rfl
  obtain ⟨k, hk2⟩ := Int.eq_ofNat_of_zero_le n0
  rw [hk] at hs ⊢
  rw [hk2] at hs np ⊢
  simp only [Int.toNat_natCast]
  have hsz : (strOfNums ((zs.drop 4).take k)).size = k := by rw [strOfNums_size, List.length_take, List.length_drop]; omega
  show (putL ((strOfNums ((zs.drop 4).take k)).size : Int) 4 ++ sNums (strOfNums ((zs.drop 4).take k)), 0) = _
  rw [hsz, sNums_strOfNums (range_take (range_drop hr 4) k), np]
  congr 1
  rw [← List.take_add]

theorem keyB_seq {α : Type} (g : α → BE) (x : ByteArray × α) : keyB g x = seqB (textB x.1) (g x.2) := by
  unfold seqB keyB
  by_cases h1 : (textB x.1).2 = 0
  · by_cases h2 : (g x.2).2 = 0
    · simp [h1, h2]
    · simp [h1, h2]
  · simp [h1]

theorem mir_key {α : Type} [Inhabited α] {q : Ps α} {g : α → BE} (gq : Good q) (hq : Mir q g) : Mir (keyR q) (keyB g) := by
  intro zs hr he
  obtain ⟨e1, e2, e3⟩ := key_bind q zs
  rw [e3 he]
  rw [e1] at he
  refine mir_bind (f := keyB g) textB (fun _ x => g x.2) mir_text (fun t => mir_bind (f := fun x : ByteArray × α => g x.2) g (fun _ _ => ([], 0)) hq (fun v => mir_pure _ _ rfl) (fun v zs hr h a b => ?_)) (fun t zs hr h a b => ?_) zs hr he
  · rw [seqB_ok a rfl, List.append_nil]
    show g v = _
    exact Prod.ext rfl a
  · rw [keyB_seq]
    have hv : ((bindR q fun v => pureR (t, v)) zs).val.1 = t := by
      unfold bindR at h ⊢
      by_cases h1 : (q zs).err = 0
      · rw [if_pos h1]; simp [pureR]
      · rw [if_neg h1] at h; exact absurd h h1
    rw [hv]

theorem pure_val {α β : Type} [Inhabited β] {q : Ps α} {F : α → β} {zs : List Int} (h : ((bindR q fun v => pureR (F v)) zs).err = 0) : ((bindR q fun v => pureR (F v)) zs).val = F (q zs).val := by
  unfold bindR at h ⊢
  by_cases h1 : (q zs).err = 0
  · rw [if_pos h1]; simp [pureR]
  · rw [if_neg h1] at h; exact absurd h h1

/-- Behind a last part nothing is put. -/
theorem mir_last {α β : Type} [Inhabited β] {q : Ps α} {g : α → BE} (hq : Mir q g) (F : α → β) (f : β → BE) (hf : ∀ v, f (F v) = g v) : Mir (bindR q fun v => pureR (F v)) f := by
  intro zs hr he
  have e := pure_val he
  have e1 : (q zs).err = 0 ∧ ((bindR q fun v => pureR (F v)) zs).done = (q zs).done := by
    unfold bindR at he ⊢
    by_cases h1 : (q zs).err = 0
    · rw [if_pos h1]; exact ⟨h1, by simp [pureR]⟩
    · rw [if_neg h1] at he; exact absurd he h1
  rw [e, hf, e1.2]
  exact hq zs hr e1.1

def stF (s : St) : BE := seqB (if s.prep then textB s.id else longB s.text) (listB valueB s.vals)

theorem inner_val {α β γ : Type} [Inhabited γ] {q : Ps α} {r : Ps β} {F : α → β → γ} {zs : List Int} (h : ((bindR q fun t => bindR r fun v => pureR (F t v)) zs).err = 0) : ∃ t v, ((bindR q fun t => bindR r fun v => pureR (F t v)) zs).val = F t v := by
  unfold bindR at h ⊢
  by_cases h1 : (q zs).err = 0
  · by_cases h2 : (r (zs.drop (q zs).done)).err = 0
    · exact ⟨(q zs).val, (r (zs.drop (q zs).done)).val, by simp [h1, h2, pureR]⟩
    · simp [h1, h2] at h
  · simp [h1] at h

theorem mir_st : Mir stR stB := by
  refine mir_bind (f := stB) (fun k => numB k 1) (fun _ s => stF s) (mir_num 1 (by omega) (by omega)) (fun k => mir_ite (fun _ => ?_) (fun _ => mir_ite (fun _ => ?_) (fun _ => mir_fail (by decide) _))) (fun k zs hr h a b => ?_)
  · refine mir_bind (f := stF) longB (fun _ s => listB valueB s.vals) mir_long (fun t => mir_last (mir_list good_value mir_value) _ _ (fun v => rfl)) (fun t zs hr h a b => ?_)
    rw [pure_val h]
    rfl
  · refine mir_bind (f := stF) textB (fun _ s => listB valueB s.vals) mir_text (fun t => mir_last (mir_list good_value mir_value) _ _ (fun v => rfl)) (fun t zs hr h a b => ?_)
    rw [pure_val h]
    rfl
  · by_cases h0 : k = 0
    · subst h0
      rw [if_pos rfl] at h ⊢
      obtain ⟨t, v, e⟩ := inner_val h
      rw [e, stB, stF, ← seqB_assoc]
      congr 1
    · rw [if_neg h0] at h ⊢
      by_cases h1 : k = 1
      · subst h1
        rw [if_pos rfl] at h ⊢
        obtain ⟨t, v, e⟩ := inner_val h
        rw [e, stB, stF, ← seqB_assoc]
        congr 1
      · rw [if_neg h1] at h
        exact absurd h (by decide : ¬ (11 : Int) = 0)

theorem mir_sts : Mir (listR stR) (listB stB) := mir_list good_st mir_st

theorem check_ok {α : Type} [Inhabited α] {bad : α → Bool} {e : Int} (he : e ≠ 0) {p : Ps α} {zs : List Int} (h : (checkR bad e p zs).err = 0) : (p zs).err = 0 ∧ bad (p zs).val = false ∧ (checkR bad e p zs).val = (p zs).val ∧ (checkR bad e p zs).done = (p zs).done := by
  unfold checkR bindR at h ⊢
  by_cases h1 : (p zs).err = 0
  · by_cases hb : bad (p zs).val = true
    · simp [h1, hb, failR, he] at h
    · have hb' : bad (p zs).val = false := by simpa using hb
      simp [h1, hb', pureR]
  · simp [h1] at h

theorem mir_check {α : Type} [Inhabited α] {bad : α → Bool} {e : Int} (he : e ≠ 0) {p : Ps α} {f g : α → BE} (hp : Mir p g) (hf : ∀ v, bad v = false → f v = g v) : Mir (checkR bad e p) f := by
  intro zs hr h
  obtain ⟨h1, h2, h3, h4⟩ := check_ok he h
  rw [h3, h4, hf _ h2]
  exact hp zs hr h1

theorem mir_cons : Mir consR consB := mir_check (by decide) (mir_num 2 (by omega) (by omega)) (fun v hv => by
  have : v ≤ 10 := by simpa using hv
  rw [consB, if_pos this]; rfl)
theorem mir_kind : Mir kindR kindB := mir_check (by decide) (mir_num 1 (by omega) (by omega)) (fun v hv => by
  have : v ≤ 2 := by simpa using hv
  rw [kindB, if_pos this]; rfl)
theorem mir_flags (b : Bool) : Mir (flagsR b) (fun x => numB x 1) := mir_check (by decide) (mir_num 1 (by omega) (by omega)) (fun v hv => rfl)

theorem putL_sgn4 (x : Int) : putL (IntKind.u64.wrap (sgn x 4)) 4 = putL x 4 := by
  have h : sgn x 4 % 4294967296 = x % 4294967296 := by
    unfold sgn
    simp only [show 8 * 4 - 1 = 31 from rfl, show 8 * 4 = 32 from rfl]
    split <;> omega
  rw [IntKind.wrap_u64]
  simp [putL, byteAt, List.range_succ]
  omega
theorem putL_sgn8 (x : Int) : putL (IntKind.u64.wrap (sgn x 8)) 8 = putL x 8 := by
  have h : sgn x 8 % 18446744073709551616 = x % 18446744073709551616 := by
    unfold sgn
    simp only [show 8 * 8 - 1 = 63 from rfl, show 8 * 8 = 64 from rfl]
    split <;> omega
  rw [IntKind.wrap_u64]
  simp [putL, byteAt, List.range_succ]
  omega
theorem mir_sgn4 : Mir (sgnR 4) (fun x => numB (IntKind.u64.wrap x) 4) := mir_last (mir_num 4 (by omega) (by omega)) _ _ (fun v => by show (_, _) = (_, _); rw [putL_sgn4])
theorem mir_sgn8 : Mir (sgnR 8) (fun x => numB (IntKind.u64.wrap x) 8) := mir_last (mir_num 8 (by omega) (by omega)) _ _ (fun v => by show (_, _) = (_, _); rw [putL_sgn8])

/-- What is read has a property, and is put as it was. -/
def Mi {α : Type} (p : Ps α) (f : α → BE) (P : α → Prop) : Prop := ∀ zs, Rng zs → (p zs).err = 0 → P (p zs).val ∧ f (p zs).val = (zs.take (p zs).done, 0)

theorem mi_of {α : Type} {p : Ps α} {f : α → BE} (h : Mir p f) : Mi p f (fun _ => True) := fun zs hr he => ⟨trivial, h zs hr he⟩
theorem mi_pure {α : Type} (a : α) (f : α → BE) {P : α → Prop} (hP : P a) (hf : f a = ([], 0)) : Mi (pureR a) f P := fun zs _ _ => ⟨hP, by
  show f a = _
  rw [hf]; rfl⟩
theorem mi_bind {α β : Type} [Inhabited β] {p : Ps α} {g : α → Ps β} {f : β → BE} {P : β → Prop} (f1 : α → BE) (P1 : α → Prop) (f2 : α → β → BE) (P2 : α → β → Prop) (hp : Mi p f1 P1) (hg : ∀ a, P1 a → Mi (g a) (f2 a) (P2 a))
    (hf : ∀ a b, P1 a → P2 a b → (f1 a).2 = 0 → (f2 a b).2 = 0 → P b ∧ f b = seqB (f1 a) (f2 a b)) : Mi (bindR p g) f P := by
  intro zs hr h
  by_cases h1 : (p zs).err = 0
  · by_cases h2 : (g (p zs).val (zs.drop (p zs).done)).err = 0
    · have e : bindR p g zs = ⟨(g (p zs).val (zs.drop (p zs).done)).val, (p zs).done + (g (p zs).val (zs.drop (p zs).done)).done, 0⟩ := by unfold bindR; rw [if_pos h1, if_pos h2]
      obtain ⟨q1, a1⟩ := hp zs hr h1
      obtain ⟨q2, a2⟩ := hg _ q1 _ (rng_drop hr _) h2
      obtain ⟨q3, a3⟩ := hf _ _ q1 q2 (by rw [a1]) (by rw [a2])
      rw [e]
      simp only
      refine ⟨q3, ?_⟩
      rw [a3, a1, a2, seqB_ok rfl rfl, List.take_add]
    · unfold bindR at h; rw [if_pos h1, if_neg h2] at h; exact absurd h h2
  · unfold bindR at h; rw [if_neg h1] at h; exact absurd h h1

theorem mi_opt {α : Type} [Inhabited α] (b : Bool) {p : Ps α} {f : α → BE} {P : α → Prop} (h : Mi p f P) : Mi (optR b p) (fun a => optB b (f a)) (fun a => (b = true → P a) ∧ (b = false → a = default)) := by
  cases b with
  | true => exact fun zs hr he => ⟨⟨fun _ => (h zs hr he).1, fun e => (by cases e)⟩, (h zs hr he).2⟩
  | false => exact mi_pure _ _ ⟨fun e => (by cases e), fun _ => rfl⟩ rfl

theorem mi_check {α : Type} [Inhabited α] {bad : α → Bool} {e : Int} (he : e ≠ 0) {p : Ps α} {f : α → BE} {P : α → Prop} (hp : Mi p f P) : Mi (checkR bad e p) f (fun a => P a ∧ bad a = false) := by
  intro zs hr h
  obtain ⟨h1, h2, h3, h4⟩ := check_ok he h
  rw [h3, h4]
  exact ⟨⟨(hp zs hr h1).1, h2⟩, (hp zs hr h1).2⟩

theorem mi_run6 (c x : Int) (vn : List Vl × List ByteArray) (pg : Int) (st : Vl) (sr : Int) : Mi (runR6 c x vn pg st sr) runB5 (fun r => ∃ tm, r = (c, vn.1, vn.2, bitX x 2, bitX x 4, pg, bitX x 8, st, bitX x 16, sr, bitX x 32, tm)) := by
  refine mi_bind _ _ (fun _ _ => ([], 0)) (fun tm r => r = (c, vn.1, vn.2, bitX x 2, bitX x 4, pg, bitX x 8, st, bitX x 16, sr, bitX x 32, tm)) (mi_opt (bitX x 32) (mi_of mir_sgn8)) (fun tm _ => mi_pure _ _ rfl rfl) ?_
  rintro tm r _ rfl h1 _
  refine ⟨⟨tm, rfl⟩, ?_⟩
  rw [seqB_ok h1 rfl, List.append_nil]
  exact Prod.ext rfl h1
theorem mi_run5 (c x : Int) (vn : List Vl × List ByteArray) (pg : Int) (st : Vl) : Mi (runR5 c x vn pg st) runB4 (fun r => ∃ sr tm, r = (c, vn.1, vn.2, bitX x 2, bitX x 4, pg, bitX x 8, st, bitX x 16, sr, bitX x 32, tm)) := by
  refine mi_bind _ _ (fun _ r => runB5 r) _ (mi_opt (bitX x 16) (mi_of mir_cons)) (fun sr _ => mi_run6 c x vn pg st sr) ?_
  rintro sr r _ ⟨tm, rfl⟩ _ _
  exact ⟨⟨sr, tm, rfl⟩, rfl⟩
theorem mi_run4 (c x : Int) (vn : List Vl × List ByteArray) (pg : Int) : Mi (runR4 c x vn pg) runB3 (fun r => ∃ st sr tm, r = (c, vn.1, vn.2, bitX x 2, bitX x 4, pg, bitX x 8, st, bitX x 16, sr, bitX x 32, tm)) := by
  refine mi_bind _ _ (fun _ r => runB4 r) _ (mi_opt (bitX x 8) (mi_of mir_value)) (fun st _ => mi_run5 c x vn pg st) ?_
  rintro st r _ ⟨sr, tm, rfl⟩ _ _
  exact ⟨⟨st, sr, tm, rfl⟩, rfl⟩
theorem mi_run3 (c x : Int) (vn : List Vl × List ByteArray) : Mi (runR3 c x vn) runB2 (fun r => ∃ pg st sr tm, r = (c, vn.1, vn.2, bitX x 2, bitX x 4, pg, bitX x 8, st, bitX x 16, sr, bitX x 32, tm)) := by
  refine mi_bind _ _ (fun _ r => runB3 r) _ (mi_opt (bitX x 4) (mi_of mir_sgn4)) (fun pg _ => mi_run4 c x vn pg) ?_
  rintro pg r _ ⟨st, sr, tm, rfl⟩ _ _
  exact ⟨⟨pg, st, sr, tm, rfl⟩, rfl⟩

theorem zip_back : ∀ L : List (ByteArray × Vl), (L.map (·.1)).zip (L.map (·.2)) = L
  | [] => rfl
  | x :: r => by simp only [List.map_cons, List.zip_cons_cons, zip_back r]

theorem mi_vals (named : Bool) : Mi (valsR1 named) (fun vn => valsB vn.1 vn.2) (fun vn => (True ∧ decide (vn.1.length = 0) = false) ∧ (named = true → vn.2.length = vn.1.length) ∧ (named = false → vn.2 = [])) := by
  intro zs hr h
  unfold valsR1 at h ⊢
  obtain ⟨h1, h2, h3, h4⟩ := check_ok (by decide) h
  rw [h3, h4]
  cases named with
  | false =>
    unfold valsR at h1 h2 ⊢
    simp only [Bool.false_eq_true, if_false] at h1 h2 ⊢
    have hv := pure_val (F := fun L : List Vl => (L, ([] : List ByteArray))) h1
    have hm := mir_last (mir_list good_value mir_value) (fun L : List Vl => (L, ([] : List ByteArray))) (fun vn => valsB vn.1 vn.2) (fun v => rfl) zs hr h1
    refine ⟨⟨⟨trivial, h2⟩, fun e => (by cases e), fun _ => by rw [hv]⟩, hm⟩
  | true =>
    unfold valsR at h1 h2 ⊢
    simp only [if_true] at h1 h2 ⊢
    have hv := pure_val (F := fun L : List (ByteArray × Vl) => (L.map (·.2), L.map (·.1))) h1
    have hL : ((listR (keyR valueR) zs).val).length ≠ 0 := by rw [hv] at h2; simpa using h2
    have e1 : (listR (keyR valueR) zs).err = 0 ∧ ((bindR (listR (keyR valueR)) fun L => pureR (L.map (·.2), L.map (·.1))) zs).done = (listR (keyR valueR) zs).done := by
      unfold bindR at h1 ⊢
      by_cases h9 : (listR (keyR valueR) zs).err = 0
      · rw [if_pos h9]; exact ⟨h9, by simp [pureR]⟩
      · rw [if_neg h9] at h1; exact absurd h1 h9
    have hm := mir_list (good_key good_value) (mir_key good_value mir_value) zs hr e1.1
    refine ⟨⟨⟨trivial, h2⟩, fun _ => by rw [hv]; simp, fun e => (by cases e)⟩, ?_⟩
    rw [hv, e1.2]
    show valsB _ _ = _
    rw [valsB, if_neg (by simpa using hL)]
    rw [zip_back]
    exact hm

theorem flags_all : ∀ x : Fin 256, ((decide ((128 : Int) ≤ (x.1 : Int))) || (bitX x.1 64 && !bitX x.1 1)) = false → flN (bitX x.1 1) (bitX x.1 2) (bitX x.1 4) (bitX x.1 8) (bitX x.1 16) (bitX x.1 32) (bitX x.1 64) = x.1 ∧ (decide (0 < (x.1 : Int) % 16) = (bitX x.1 1 || bitX x.1 2 || bitX x.1 4 || bitX x.1 8)) ∧ decide ((64 : Int) ≤ x.1) = bitX x.1 64 := by decide +kernel

theorem mi_run2 (b : Bool) (c x : Int) (h0 : 0 ≤ x ∧ x < 256) (hb : badX b x = false) : Mi (runR2 c x) runB1 (fun r => r.cons = c ∧ badF b r = false ∧ flagsN r = x) := by
  obtain ⟨n, hn⟩ := Int.eq_ofNat_of_zero_le h0.1
  have hn2 : n < 256 := by omega
  have hb2 := hb
  unfold badX at hb2
  rw [Bool.or_eq_false_iff] at hb2
  obtain ⟨f1, f2, f3⟩ := flags_all ⟨n, hn2⟩ (by simpa [hn] using hb2.1)
  simp only [← hn] at f1 f2 f3
  rw [f2, f3] at hb2
  refine mi_bind _ _ (fun _ r => runB2 r) _ (mi_opt (bitX x 1) (mi_vals (bitX x 64))) (fun vn _ => mi_run3 c x vn) ?_
  rintro vn r ⟨q1, q2⟩ ⟨pg, st, sr, tm, rfl⟩ _ _
  have hv : hasV (c, vn.1, vn.2, bitX x 2, bitX x 4, pg, bitX x 8, st, bitX x 16, sr, bitX x 32, tm) = bitX x 1 := by
    show decide (0 < vn.1.length) = _
    by_cases h : bitX x 1 = true
    · have h9 := of_decide_eq_false (q1 h).1.2
      rw [h]
      exact decide_eq_true (by omega)
    · have h' : bitX x 1 = false := by simpa using h
      rw [q2 h', h']
      rfl
  have h641 : bitX x 64 = true → bitX x 1 = true := by
    intro e
    have := hb2.1
    rw [e] at this
    simp only [Bool.or_eq_false_iff, Bool.true_and, Bool.not_eq_false'] at this
    exact this.2
  have hnm : hasN (c, vn.1, vn.2, bitX x 2, bitX x 4, pg, bitX x 8, st, bitX x 16, sr, bitX x 32, tm) = bitX x 64 := by
    show decide (0 < vn.2.length) = _
    by_cases h : bitX x 64 = true
    · have h1 := q1 (h641 h)
      have h2 := h1.2.1 h
      have h3 := of_decide_eq_false h1.1.2
      rw [h, h2]
      exact decide_eq_true (by omega)
    · have h' : bitX x 64 = false := by simpa using h
      rw [h']
      by_cases h1 : bitX x 1 = true
      · rw [(q1 h1).2.2 h']; rfl
      · rw [q2 (by simpa using h1)]; rfl
  refine ⟨⟨rfl, ?_, ?_⟩, ?_⟩
  · unfold badF
    rw [hv, hnm]
    rw [Bool.or_eq_false_iff]
    refine ⟨?_, ?_⟩
    · show (b && (bitX x 1 || bitX x 2 || bitX x 4 || bitX x 8 || bitX x 64)) = false
      exact hb2.2
    · show (bitX x 64 && !decide (vn.2.length = vn.1.length)) = false
      by_cases h : bitX x 64 = true
      · rw [(q1 (h641 h)).2.1 h]; simp
      · have h' : bitX x 64 = false := by simpa using h
        rw [h']; rfl
  · unfold flagsN
    rw [hv, hnm]
    exact f1
  · unfold runB1
    rw [hv]
    rfl

theorem num1_fact {zs : List Int} (hr : Rng zs) (h : (numR 1 zs).err = 0) : 0 ≤ (numR 1 zs).val ∧ (numR 1 zs).val < 256 := by
  by_cases hl : zs.length < 1
  · unfold numR at h; rw [if_pos hl] at h; exact absurd h (by decide : ¬ (10 : Int) = 0)
  · have e : numR 1 zs = ⟨numTo zs 1, 1, 0⟩ := by unfold numR; rw [if_neg hl]
    rw [e]
    have := numTo_bound zs hr 1 (by omega)
    have h4 : (256 : Int) ^ 1 = 256 := by decide
    exact ⟨this.1, by simp only; omega⟩

theorem mi_flags (b : Bool) : Mi (flagsR b) (fun x => numB x 1) (fun x => (0 ≤ x ∧ x < 256) ∧ badX b x = false) := by
  refine mi_check (P := fun x => 0 ≤ x ∧ x < 256) (by decide) (fun zs hr h => ⟨num1_fact hr h, mir_num 1 (by omega) (by omega) zs hr h⟩)

theorem mi_run1 (b : Bool) (c : Int) : Mi (runR1 b c) (fun r => seqB (flagsB b r) (runB1 r)) (fun r => r.cons = c) := by
  refine mi_bind _ _ (fun _ r => runB1 r) (fun x r => r.cons = c ∧ badF b r = false ∧ flagsN r = x) (mi_flags b) (fun x hx => mi_run2 b c x hx.1 hx.2) ?_
  rintro x r ⟨hx, _⟩ ⟨h1, h2, h3⟩ _ _
  refine ⟨h1, ?_⟩
  rw [flagsB, h2, h3]
  simp only [Bool.false_eq_true, if_false]
  congr 1
  unfold numB
  simp [putL, byteAt, List.range_succ]
  omega

theorem mir_run (b : Bool) : Mir (runR b) (runB b) := by
  have : Mi (runR b) (runB b) (fun _ => True) := by
    refine mi_bind _ _ (fun _ r => seqB (flagsB b r) (runB1 r)) (fun c r => r.cons = c) (mi_of mir_cons) (fun c _ => mi_run1 b c) ?_
    rintro c r _ hc _ _
    refine ⟨trivial, ?_⟩
    rw [runB, hc]
  exact fun zs hr he => (this zs hr he).2

theorem mi_last {α β : Type} [Inhabited β] {q : Ps α} {g : α → BE} (hq : Mir q g) (F : α → β) (f : β → BE) (P : β → Prop) (hf : ∀ v, f (F v) = g v) (hP : ∀ v, P (F v)) : Mi (bindR q fun v => pureR (F v)) f P := by
  intro zs hr he
  exact ⟨by rw [pure_val he]; exact hP _, mir_last hq F f hf zs hr he⟩

theorem put_at (r : Rq) (op : Int) (h : r.op = op) : putB r = (if op = 1 then listB (keyB textB) r.opts
  else if op = 5 then ([], 0)
  else if op = 7 then seqB (longB r.text) (runB false r.run)
  else if op = 9 then longB r.text
  else if op = 10 then seqB (textB r.id) (runB false r.run)
  else if op = 11 then listB textB r.evs
  else if op = 15 then valueB r.tok
  else if op = 13 then seqB (kindB r.kind) (seqB (listB stB r.all) (runB true r.run))
  else ([], 22)) := by rw [← h]; rfl

theorem mir_get (op : Int) : Mi (getR op) putB (fun r => r.op = op) := by
  by_cases h1 : op = 1
  · subst h1; simp only [getR, Int.reduceEq, ↓reduceIte]; exact mi_last (β := Rq) (mir_list (good_key good_text) (mir_key good_text mir_text)) _ _ _ (fun v => rfl) (fun v => rfl)
  by_cases h5 : op = 5
  · subst h5; simp only [getR, Int.reduceEq, ↓reduceIte]; exact mi_pure _ _ rfl rfl
  by_cases h7 : op = 7
  · subst h7
    simp only [getR, Int.reduceEq, ↓reduceIte]
    refine mi_bind (β := Rq) _ _ (fun _ r => runB false r.run) (fun t r => r.op = 7 ∧ r.text = t) (mi_of mir_long) (fun t _ => mi_last (β := Rq) (mir_run false) _ _ _ (fun v => rfl) (fun v => ⟨rfl, rfl⟩)) ?_
    rintro t r _ ⟨e1, e2⟩ _ _
    refine ⟨e1, ?_⟩
    rw [put_at r 7 e1, e2]; rfl
  by_cases h9 : op = 9
  · subst h9; simp only [getR, Int.reduceEq, ↓reduceIte]; exact mi_last (β := Rq) mir_long _ _ _ (fun v => rfl) (fun v => rfl)
  by_cases h10 : op = 10
  · subst h10
    simp only [getR, Int.reduceEq, ↓reduceIte]
    refine mi_bind (β := Rq) _ _ (fun _ r => runB false r.run) (fun t r => r.op = 10 ∧ r.id = t) (mi_of mir_text) (fun t _ => mi_last (β := Rq) (mir_run false) _ _ _ (fun v => rfl) (fun v => ⟨rfl, rfl⟩)) ?_
    rintro t r _ ⟨e1, e2⟩ _ _
    refine ⟨e1, ?_⟩
    rw [put_at r 10 e1, e2]; rfl
  by_cases h11 : op = 11
  · subst h11; simp only [getR, Int.reduceEq, ↓reduceIte]; exact mi_last (β := Rq) (mir_list good_text mir_text) _ _ _ (fun v => rfl) (fun v => rfl)
  by_cases h15 : op = 15
  · subst h15; simp only [getR, Int.reduceEq, ↓reduceIte]; exact mi_last (β := Rq) mir_value _ _ _ (fun v => rfl) (fun v => rfl)
  by_cases h13 : op = 13
  · subst h13
    simp only [getR, Int.reduceEq, ↓reduceIte]
    refine mi_bind (β := Rq) _ _ (fun _ r => seqB (listB stB r.all) (runB true r.run)) (fun k r => r.op = 13 ∧ r.kind = k) (mi_of mir_kind) (fun k _ => ?_) ?_
    · refine mi_bind (β := Rq) _ _ (fun _ r => runB true r.run) (fun a r => (r.op = 13 ∧ r.kind = k) ∧ r.all = a) (mi_of mir_sts) (fun a _ => mi_last (β := Rq) (mir_run true) _ _ _ (fun v => rfl) (fun v => ⟨⟨rfl, rfl⟩, rfl⟩)) ?_
      rintro a r _ ⟨e1, e2⟩ _ _
      refine ⟨e1, ?_⟩
      rw [e2]
    · rintro k r _ ⟨e1, e2⟩ _ _
      refine ⟨e1, ?_⟩
      rw [put_at r 13 e1, e2]; rfl
  unfold getR
  rw [if_neg h1, if_neg h5, if_neg h7, if_neg h9, if_neg h10, if_neg h11, if_neg h15, if_neg h13]
  exact fun zs _ h => absurd h (by decide : ¬ (22 : Int) = 0)

/-- What is got is put as it was. -/
theorem got_put {op : Int} {zs : List Int} (hr : Rng zs) (h : getE op zs = 0) : putB (getR op zs).val = (zs, 0) := by
  obtain ⟨h1, h2⟩ := get_whole h
  have := (mir_get op zs hr h1).2
  rw [this, h2, List.take_length]
end Go.Proofs.Ytcecdklgiocbaaa
