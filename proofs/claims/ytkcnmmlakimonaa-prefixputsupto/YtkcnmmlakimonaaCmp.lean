/-
  What the statements compare with: contracts that the last row of each of them takes.
-/
import Derived.Test.YtkcnmmlakimonaaRefG3
import Derived.Test.YtkcnmmlakimonaaRefP3
import Derived.Test.YtkcnmmlakimonaaSame
import Derived.Deep.RegionHeld3
namespace Go.Proofs.Ytkcnmmlakimonaa
open Go.RowKit
set_option maxRecDepth 100000
set_option linter.unusedVariables false
set_option linter.unusedSimpArgs false

theorem goR_done {α : Type} {p : List Int → Res α} (hp : ∀ zs, (p zs).err = 0 → (p zs).done ≤ zs.length) (zs : List Int) : ∀ (n d : Nat) (acc : List α), d ≤ zs.length → (goR p zs n d acc).err = 0 → (goR p zs n d acc).done ≤ zs.length := by
  intro n
  induction n with
  | zero => intro d acc hd _; exact hd
  | succ n ih =>
    intro d acc hd h
    rw [goR] at h ⊢
    by_cases hx : (p (zs.drop d)).err = 0
    · rw [if_pos hx] at h ⊢
      have := hp _ hx
      rw [List.length_drop] at this
      exact ih _ _ (by omega) h
    · rw [if_neg hx] at h
      exact absurd h hx

theorem listR_done (zs : List Int) (h : (listR textR zs).err = 0) : (listR textR zs).done ≤ zs.length := by
  unfold listR at h ⊢
  split
  · exact Nat.zero_le _
  · rename_i hl
    rw [if_neg hl] at h
    exact goR_done textR_done zs _ _ _ (by omega) h

theorem goR_len {α : Type} {p : List Int → Res α} (zs : List Int) : ∀ (n d : Nat) (acc : List α), (goR p zs n d acc).val.length ≤ acc.length + n := by
  intro n
  induction n with
  | zero => intro d acc; simp [goR]
  | succ n ih =>
    intro d acc
    rw [goR]
    split
    · have := ih (d + (p (zs.drop d)).done) (acc ++ [(p (zs.drop d)).val])
      simp at this
      omega
    · simp

theorem listR_len' {α : Type} {p : List Int → Res α} (zs : List Int) (hr : ∀ j : Nat, 0 ≤ zs[j]?.getD 0 ∧ zs[j]?.getD 0 ≤ 255) : (listR p zs).val.length ≤ 65536 := by
  unfold listR
  split
  · simp
  · rename_i hl
    have h1 := goR_len (p := p) zs (numTo zs 2).toNat 2 []
    have h2 := (numTo_bound zs hr 2 (by omega)).2
    have h4 : (256 : Int) ^ 2 = 65536 := by decide
    rw [List.length_nil] at h1
    omega

theorem ctexts_in {w W : World} (hW : Below w.heap.size w W) {a : Option Addr} {len cap : Nat} {xs : List ByteArray} (h : View 1 VS w a len cap xs) (hl : len ≤ 100000000) {I : List It} (hI : I = xs.map keyIt) :
    Calls Try.prog 22 #[.slice a len cap] W fun e w' => ∃ a' c', e = .returned (.slice a' I.length c') ∧ Hid (View 5 VI w' a' I.length c' I) ∧ Below w.heap.size w w' := by
  subst hI
  refine (ctexts_any (h.old stays_s hW) hl).mono ?_
  rintro e w' ⟨v, rfl, HO, hB⟩
  obtain ⟨a', c', rfl, hv, _⟩ := HO.out.view
  exact ⟨a', c', rfl, hv, hW.trans (hB.mono hW.size)⟩

theorem same_in {w W : World} (hW : Below w.heap.size w W) {a a' : Option Addr} {cap cap' : Nat} {I : List It} (h : View 5 VI W a I.length cap I) (h' : View 5 VI w a' I.length cap' I) :
    Calls Try.prog 21 #[.slice a I.length cap, .slice a' I.length cap'] W fun e w' => e = .returned (.bool true) ∧ Below w.heap.size w w' := by
  refine (same_yes h (h'.old stays_i hW)).mono ?_
  rintro e w' ⟨rfl, q, rfl⟩
  exact ⟨rfl, below_drewN hW q⟩

/-- What stands from a place on, as the language cuts it. -/
theorem IsB.tail {w : World} {b off len cap : Nat} {zs : List Int} (h : BRow w b off len cap zs) (k : Nat) (hk : k ≤ len) (o : Nat) (ho : k < len → o = off + k) :
    (convert 22 9 (.slice (some ⟨b, o, none⟩) (len - k) (cap - k))).run Try.prog w = .ok (.string (strOfNums (zs.drop k))) w := (h.drop k hk ho).conv

theorem centries_in {w W : World} (hW : Below w.heap.size w W) {a : Option Addr} {len cap : Nat} {xs : List (ByteArray × Int × ByteArray)} (h : View 3 VE w a len cap xs) (hl : len ≤ 100000000) {I : List It} (hI : I = xs.map entryIt) :
    Calls Try.prog 23 #[.slice a len cap] W fun e w' => ∃ a' c', e = .returned (.slice a' I.length c') ∧ Hid (View 5 VI w' a' I.length c' I) ∧ Below w.heap.size w w' := by
  subst hI
  refine (centries_any (h.old stays_e hW) hl).mono ?_
  rintro e w' ⟨v, rfl, HO, hB⟩
  obtain ⟨a', c', rfl, hv, _⟩ := HO.out.view
  exact ⟨a', c', rfl, hv, hW.trans (hB.mono hW.size)⟩

/-- What holds of each thing that is got holds of all items of a list. -/
theorem goR_all {α : Type} {p : List Int → Res α} {R : α → Prop} (hp : ∀ zs, (∀ j : Nat, 0 ≤ zs[j]?.getD 0 ∧ zs[j]?.getD 0 ≤ 255) → R (p zs).val) (zs : List Int) (hr : ∀ j : Nat, 0 ≤ zs[j]?.getD 0 ∧ zs[j]?.getD 0 ≤ 255) :
    ∀ (n d : Nat) (acc : List α), (∀ x ∈ acc, R x) → ∀ x ∈ (goR p zs n d acc).val, R x := by
  intro n
  induction n with
  | zero => intro d acc h; exact h
  | succ n ih =>
    intro d acc h
    rw [goR]
    split
    · refine ih _ _ (fun x hx => ?_)
      rcases List.mem_append.1 hx with hx | hx
      · exact h x hx
      · rw [List.mem_singleton.1 hx]; exact hp _ (range_drop hr d)
    · intro x hx; simp at hx

theorem listR_all {α : Type} {p : List Int → Res α} {R : α → Prop} (hp : ∀ zs, (∀ j : Nat, 0 ≤ zs[j]?.getD 0 ∧ zs[j]?.getD 0 ≤ 255) → R (p zs).val) (zs : List Int) (hr : ∀ j : Nat, 0 ≤ zs[j]?.getD 0 ∧ zs[j]?.getD 0 ≤ 255) : ∀ x ∈ (listR p zs).val, R x := by
  unfold listR
  split
  · intro x hx; simp at hx
  · exact goR_all hp zs hr _ _ _ (by simp)

theorem multi_len (zs : List Int) (hr : ∀ j : Nat, 0 ≤ zs[j]?.getD 0 ∧ zs[j]?.getD 0 ≤ 255) : (keyR (listR textR) zs).val.2.length ≤ 65536 := by
  unfold keyR
  split
  · split
    · exact listR_len' _ (range_drop hr _)
    · exact Nat.zero_le _
  · exact Nat.zero_le _


end Go.Proofs.Ytkcnmmlakimonaa
