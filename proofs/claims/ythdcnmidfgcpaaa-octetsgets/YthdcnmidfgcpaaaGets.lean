/-
  OctetsGets walked: it answers true, and turns nothing that was there.
-/
import Derived.Test.YthdcnmidfgcpaaaArg
namespace Go.Proofs.Ythdcnmidfgcpaaa
open Go.RowKit
set_option linter.unusedVariables false

set_option maxHeartbeats 1000000 in
theorem gets_no (a : Option Addr) (len cap : Nat) (n : Int) (w : World) (h : n < 1 ∨ 8 < n) :
    Calls Try.prog 4 #[.slice a len cap, .int .i64 n] w fun e w' => e = .returned (.bool true) ∧ Below w.heap.size w w' := by
  have HN : Hid (n < 1 ∨ 8 < n) := h
  clear h
  go_enter Try.func4, Try.ntmps4
  go_wp2_with fail
  refine (awake_any _).mono ?_
  rintro e w1 ⟨rfl, hB1⟩
  go_wp2_with fail
  refine (get_no _ _ _ _ _ HN.out).mono ?_
  rintro e w2 ⟨rfl, rfl⟩
  go_wp2_with fail
  refine (rget_no _ _ _ _ _ HN.out).mono ?_
  rintro e w3 ⟨rfl, rfl⟩
  go_wp2
  go_quiet (fail)
  go_wp2
  go_ret
  exact ⟨rfl, below_drewN hB1 _⟩

set_option maxHeartbeats 1000000 in
theorem gets_short (a : Option Addr) (len cap n : Nat) (w : World) (h1 : 1 ≤ n) (h2 : n ≤ 8) (hl : len < n) :
    Calls Try.prog 4 #[.slice a len cap, .int .i64 n] w fun e w' => e = .returned (.bool true) ∧ Below w.heap.size w w' := by
  go_enter Try.func4, Try.ntmps4
  go_wp2_with fail
  refine (awake_any _).mono ?_
  rintro e w1 ⟨rfl, hB1⟩
  go_wp2_with fail
  refine (get_short _ _ _ _ _ h1 h2 hl).mono ?_
  rintro e w2 ⟨rfl, rfl⟩
  go_wp2_with fail
  refine (rget_short _ _ _ _ _ h1 h2 hl).mono ?_
  rintro e w3 ⟨rfl, rfl⟩
  go_wp2
  go_quiet (fail)
  go_wp2
  go_ret
  exact ⟨rfl, below_drewN hB1 _⟩

set_option maxHeartbeats 1000000 in
theorem gets_yes (b off len cap n : Nat) (zs : List Int) (w : World) (h1 : 1 ≤ n) (h2 : n ≤ 8) (hl : n ≤ len) (hc : len ≤ cap) (hm : cap ≤ maxLen) (hb : b < w.heap.size)
    (hcell : ∀ i, i < len → w.cell? ⟨b, off + i, none⟩ = some (.int .u8 (zs.getD i 0))) (hz : len ≤ zs.length) (hr : ∀ j : Nat, 0 ≤ zs[j]?.getD 0 ∧ zs[j]?.getD 0 ≤ 255) :
    Calls Try.prog 4 #[.slice (some ⟨b, off, none⟩) len cap, .int .i64 n] w fun e w' => e = .returned (.bool true) ∧ Below w.heap.size w w' := by
  have HC : Hid (∀ i, i < len → w.cell? ⟨b, off + i, none⟩ = some (.int .u8 (zs.getD i 0))) := hcell
  have HR : Hid (∀ j : Nat, 0 ≤ zs[j]?.getD 0 ∧ zs[j]?.getD 0 ≤ 255) := hr
  have HM : Hid (cap ≤ maxLen) := hm
  unfold maxLen at hm
  clear hcell hr
  go_enter Try.func4, Try.ntmps4
  go_wp2_with fail
  refine (awake_any _).mono ?_
  rintro e w1 ⟨rfl, hB1⟩
  have HC1 : Hid (∀ i, i < len → w1.cell? ⟨b, off + i, none⟩ = some (.int .u8 (zs.getD i 0))) := fun i hi => (hB1.cell hb).trans (HC.out i hi)
  clear HC
  go_wp2_with fail
  refine (get_yes _ _ _ _ _ zs _ h1 h2 hl hc HM.out HC1.out hz HR.out).mono ?_
  rintro e w2 ⟨off', q, ho, rfl, rfl⟩
  have hcv := conv_rest w w1 b off off' n len cap (cap - n) zs hl hz ho HC1.out
  have hcv2 := conv_rest w w1 b off (off + n) n len cap (cap - n) zs hl hz (fun _ => rfl) HC1.out
  go_wp2_with fail
  refine (rget_yes b off _ _ _ zs _ h1 h2 hl hc HM.out (fun i hi => by simpa using HC1.out i hi) hz HR.out).mono ?_
  rintro e w3 ⟨rfl, rfl⟩
  by_cases hck : cap = n
  · have hce := conv_empty
    subst hck
    clear ho HC1 HR hcv hcv2
    go_wp2
    go_quiet (fail)
    go_wp2
    go_ret
    exact ⟨by simp, below_drewN (below_drewN hB1 _) _⟩
  · clear ho HC1 HR
    generalize strOfNums ((zs.take len).drop n) = T at *
    go_wp2
    go_quiet (fail)
    go_wp2
    go_ret
    exact ⟨by simp, below_drewN (below_drewN hB1 _) _⟩

theorem gets_walk (a : Option Addr) (len cap : Nat) (zs : List Int) (n : Int) (w : World) (h : IsRow .u8 w a len cap zs) :
    Calls Try.prog 4 #[.slice a len cap, .int .i64 n] w fun e w' => e = .returned (.bool true) ∧ Below w.heap.size w w' := by
  by_cases hn : n < 1 ∨ 8 < n
  · exact gets_no a len cap n w hn
  · obtain ⟨m, rfl⟩ := Int.eq_ofNat_of_zero_le (show 0 ≤ n by omega)
    by_cases hl : len < m
    · exact gets_short a len cap m w (by omega) (by omega) hl
    · obtain ⟨b, off, rfl, hlc, hm, hz, hb, hcell, hwf⟩ := h.at (by have := h.le; omega)
      exact gets_yes b off len cap m zs w (by omega) (by omega) (by omega) hlc hm hb (fun i hi => hcell i (by omega)) (by omega) (range_of_wf hwf)
end Go.Proofs.Ythdcnmidfgcpaaa
