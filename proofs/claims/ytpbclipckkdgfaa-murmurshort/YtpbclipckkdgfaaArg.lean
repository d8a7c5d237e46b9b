/-
  What the walks are told of bytes that came in; and what the statements ask first: awake answers true, and turns nothing that was there.
-/
import Derived.Test.YtpbclipckkdgfaaHash
import Derived.OpenShut
import Derived.Lib.SlBytesConst
namespace Go.Proofs.Ytpbclipckkdgfaa
open Go.RowKit
set_option linter.unusedVariables false

/-- A slice of integers that came in: it is nil; or it leads to a row of 'cap' cells, the numbers 'zs' (the first 'len' are its elements, the rest its spare room), each fitting its kind. -/
def IsRow (k : IntKind) (w : World) (a : Option Addr) (len cap : Nat) (zs : List Int) : Prop :=
  (a = none ∧ len = 0 ∧ cap = 0 ∧ zs = []) ∨
  ∃ x, a = some x ∧ len ≤ cap ∧ cap ≤ maxLen ∧ zs.length = cap ∧ (∀ i, i < zs.length → w.cell? (x.add i) = some (.int k (zs.getD i 0))) ∧ ∀ n ∈ zs, (Lit.int k n).wf = true

/-- Where there is a place for an element the row's place is known. -/
theorem IsRow.at {k : IntKind} {w : World} {a : Option Addr} {len cap : Nat} {zs : List Int} (h : IsRow k w a len cap zs) (hp : 0 < cap) :
    ∃ b off, a = some ⟨b, off, none⟩ ∧ len ≤ cap ∧ cap ≤ maxLen ∧ zs.length = cap ∧ b < w.heap.size ∧ (∀ i, i < cap → w.cell? ⟨b, off + i, none⟩ = some (.int k (zs.getD i 0))) ∧ ∀ n ∈ zs, (Lit.int k n).wf = true := by
  rcases h with ⟨_, _, h, _⟩ | ⟨x, rfl, hl, hm, hz, hcell, hwz⟩
  · omega
  · obtain ⟨b, off, spot⟩ := x
    have hc := hcell 0 (by omega)
    have hspot : spot = none := by simpa [Addr.add] using World.cell?_spot hc
    subst hspot
    refine ⟨b, off, rfl, hl, hm, hz, ?_, ?_, hwz⟩
    · have := block_lt_of_cell hc
      simpa [Addr.add] using this
    · intro i hi
      have := hcell i (by omega)
      have hplain : (⟨b, off, none⟩ : Addr).add i = ⟨b, off + i, none⟩ := by unfold Addr.add; split <;> simp_all
      rwa [hplain] at this

theorem IsRow.le {k : IntKind} {w : World} {a : Option Addr} {len cap : Nat} {zs : List Int} (h : IsRow k w a len cap zs) : len ≤ cap ∧ cap ≤ maxLen := by
  rcases h with ⟨_, h, h', _⟩ | ⟨x, rfl, hl, hm, hz, hcell, hwz⟩
  · exact ⟨by omega, by unfold maxLen; omega⟩
  · exact ⟨hl, hm⟩

theorem range_of_wf {zs : List Int} (h : ∀ n ∈ zs, (Lit.int .u8 n).wf = true) : ∀ j : Nat, 0 ≤ zs[j]?.getD 0 ∧ zs[j]?.getD 0 ≤ 255 := by
  intro j
  by_cases hj : j < zs.length
  · rw [List.getElem?_eq_getElem hj, Option.getD_some]
    have := bounds_u8 (h _ (List.getElem_mem hj))
    omega
  · rw [List.getElem?_eq_none (by omega)]; simp


/-- Bytes that came in, as the sum takes them. -/
theorem byR_row {w : World} {a : Option Addr} {len cap : Nat} {zs : List Int} (h : IsRow .u8 w a len cap zs) : ByR w a len cap (fun i => zs.getD i 0) := by
  have hr : ∀ i : Nat, 0 ≤ zs.getD i 0 ∧ zs.getD i 0 ≤ 255 := by
    rcases h with ⟨_, _, _, rfl⟩ | ⟨x, rfl, hl, hm, hz, hcell, hwz⟩
    · intro i; simp
    · intro i; have := range_of_wf hwz i; rwa [List.getD_eq_getElem?_getD]
  by_cases hc : 0 < cap
  · obtain ⟨b, off, rfl, hlc, hm, hz, hb, hcell, hwf⟩ := h.at hc
    exact ⟨hr, .inr ⟨b, off, rfl, hlc, hm, fun i hi => hcell i (by omega)⟩⟩
  · have := h.le
    exact ⟨hr, .inl ⟨by omega, by omega⟩⟩

theorem byR_below {w w' : World} {a : Option Addr} {len cap : Nat} {zs : List Int} (h : IsRow .u8 w a len cap zs) (hB : Below w.heap.size w w') : ByR w' a len cap (fun i => zs.getD i 0) := by
  obtain ⟨hr, _⟩ := byR_row h
  by_cases hc : 0 < cap
  · obtain ⟨b, off, rfl, hlc, hm, hz, hb, hcell, hwf⟩ := h.at hc
    exact ⟨hr, .inr ⟨b, off, rfl, hlc, hm, fun i hi => (hB.cell (p := ⟨b, off + i, none⟩) hb).trans (hcell i (by omega))⟩⟩
  · have := h.le
    exact ⟨hr, .inl ⟨by omega, by omega⟩⟩

theorem a_range : ∀ i : Nat, 0 ≤ ([97] : List Int).getD i 0 ∧ ([97] : List Int).getD i 0 ≤ 255 := by
  intro i
  match i with
  | 0 => simp
  | i + 1 => simp

set_option maxHeartbeats 1000000 in
theorem awake_any (w : World) : Calls Try.prog 8 #[] w fun e w' => e = .returned (.bool true) ∧ Below w.heap.size w w' := by
  have HB : Hid (ByR (w.alloc (.cells #[.int .u8 97] 5 (1, 2))) (some ⟨w.heap.size, 0, none⟩) 1 1 (fun i => [97].getD i 0)) :=
    ⟨a_range, .inr ⟨_, _, rfl, by omega, by unfold maxLen; omega, fun i hi => by
      obtain rfl : i = 0 := by omega
      rw [show (0 : Nat) + 0 = 0 from rfl, World.cell?_alloc_mark]; rfl⟩⟩
  have kc := Lib.run_convert_bytes_const (P := Try.prog) w 22 5 #[.int .u8 97] 1 1 Try.underlying22 Try.underlying5
  have HT : Hid (tok (sumH (fun _ => 0) 0) = 0) := by show _ = _; rw [sum_none]; decide +kernel
  go_enter Try.func8, Try.ntmps8
  go_wp2_with fail
  refine (hash_any _ _ _ _ _ HB.out).mono ?_
  rintro e w1 ⟨q, rfl, hw1⟩
  have hB1 : Below w.heap.size w w1 := by rw [hw1]; exact below_drewN ((Below.refl _ _).alloc (Nat.le_refl _) _) _
  clear hw1
  obtain ⟨x, hx⟩ : ∃ x, x = sumH (fun i => [97].getD i 0) 1 := ⟨_, rfl⟩
  have hx0 : (x == 0) = false := by rw [hx]; simpa using sum_a
  have hx1 : (x != 0) = true := by simp [bne, hx0]
  rw [← hx]
  clear hx
  go_wp2_with fail
  refine (token_any none 0 0 (fun _ => 0) _ ⟨fun i => by simp, .inl ⟨rfl, rfl⟩⟩).mono ?_
  rintro e w2 ⟨q2, rfl, rfl⟩
  rw [HT.out]
  go_wp2
  go_ret
  exact ⟨by simp, below_drewN hB1 _⟩
end Go.Proofs.Ytpbclipckkdgfaa
