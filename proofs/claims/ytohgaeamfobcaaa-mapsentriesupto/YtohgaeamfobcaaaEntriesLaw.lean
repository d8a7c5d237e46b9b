/-
  MapsEntries, where no value has more than 1048576 bytes, walked: it answers true, and turns nothing that was there.
-/
import Derived.Test.YtohgaeamfobcaaaEntriesErr
import Derived.Test.YtohgaeamfobcaaaEntriesOk
import Derived.Deep.DeepCutAuto
namespace Go.Proofs.Ytohgaeamfobcaaa
open Go.RowKit
set_option linter.unusedVariables false
set_option linter.unusedSimpArgs false

set_option maxRecDepth 100000 in
set_option maxHeartbeats 1000000 in
theorem entries_big (a0 : Option Addr) (len0 cap0 : Nat) (a1 : Option Addr) (len1 cap1 : Nat) (w : World) (h0 : len0 ≤ maxLen) (h1 : len1 ≤ maxLen) (h : 100 < len0 ∨ 3000 < len1) :
    Calls Try.prog 6 #[.slice a0 len0 cap0, .slice a1 len1 cap1] w fun e w' => e = .returned (.bool true) ∧ Below w.heap.size w w' := by
  unfold maxLen at h0 h1
  by_cases hl0 : 100 < len0
  · go_enter Try.func6, Try.ntmps6
    go_wp2_with fail
    refine (awake_any _).mono ?_
    rintro e w1 ⟨rfl, hB1⟩
    go_wp2
    go_ret
    exact ⟨rfl, hB1⟩
  · have t0 : decide ((100 : Int) < len0) = false := by simp; omega
    have hl1 : 3000 < len1 := by omega
    clear h
    go_enter Try.func6, Try.ntmps6
    go_wp2_with fail
    refine (awake_any _).mono ?_
    rintro e w1 ⟨rfl, hB1⟩
    go_wp2
    go_ret
    exact ⟨rfl, hB1⟩

theorem entries_walk (a0 : Option Addr) (len0 cap0 : Nat) (ss : List (ByteArray × Int × ByteArray)) (a1 : Option Addr) (len1 cap1 : Nat) (zs : List Int) (w : World) (h0 : View 3 VE w a0 len0 cap0 ss) (s0 : ∀ p ∈ ss, p.1.size ≤ maxLen ∧ p.2.2.size ≤ 1048576) (h1 : IsB w a1 len1 cap1 zs) :
    Calls Try.prog 6 #[.slice a0 len0 cap0, .slice a1 len1 cap1] w fun e w' => e = .returned (.bool true) ∧ Below w.heap.size w w' := by
  by_cases hbig : 100 < len0 ∨ 3000 < len1
  · exact entries_big a0 len0 cap0 a1 len1 cap1 w (Nat.le_trans h0.2.1 h0.2.2.1) (Nat.le_trans h1.2.1 h1.2.2.1) hbig
  · by_cases he : (listR (keyR valueR) zs).err = 0
    · exact entries_ok a0 len0 cap0 ss a1 len1 cap1 zs w h0 s0 h1 (by omega) (by omega) he
    · exact entries_err a0 len0 cap0 ss a1 len1 cap1 zs w h0 s0 h1 (by omega) (by omega) he
end Go.Proofs.Ytohgaeamfobcaaa
