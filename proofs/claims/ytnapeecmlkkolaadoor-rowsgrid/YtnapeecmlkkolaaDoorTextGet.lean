/-
  The contracts of prims.GetText and prims.GetLong.
-/
import Derived.Test.YtnapeecmlkkolaaDoorRow
namespace Go.Proofs.YtnapeecmlkkolaaDoor
open Go.RowKit
set_option linter.unusedVariables false
set_option linter.unusedSimpArgs false

set_option maxHeartbeats 400000 in
theorem getText_short0 (a : Option Addr) (len cap : Nat) (w : World) (hl : len < 2) :
    Calls Tryd.prog 71 #[.slice a len cap] w fun e w' => e = .returned (.tuple #[.string ByteArray.empty, .slice none 0 0, .int .i64 10]) ∧ Below w.heap.size w w' := by
  go_enter Tryd.func71, Tryd.ntmps71
  go_wp2_with fail
  refine (bget_short a len cap 2 _ (by omega) (by omega) hl _ rfl).mono ?_
  rintro e w1 ⟨rfl, rfl⟩
  go_wp2_with fail
  go_ret3
  exact ⟨rfl, Below.refl _ _⟩

set_option maxHeartbeats 400000 in
theorem getText_short {w : World} {b off len cap : Nat} {zs : List Int} (h : BRow w b off len cap zs) (hl : 2 ≤ len) (hn : ((len - 2 : Nat) : Int) < numTo zs 2) :
    Calls Tryd.prog 71 #[.slice (some ⟨b, off, none⟩) len cap] w fun e w' => e = .returned (.tuple #[.string ByteArray.empty, .slice none 0 0, .int .i64 10]) ∧ Below w.heap.size w w' := by
  have H : Hid _ := h
  have hlm : len ≤ maxLen := Nat.le_trans h.le h.cap_le
  have HN : Hid _ := hn
  have HLM : Hid (len - 2 ≤ maxLen) := (by omega : len - 2 ≤ maxLen)
  have hcn := conv_nil
  clear h hn hlm
  go_enter Tryd.func71, Tryd.ntmps71
  go_wp2_with fail
  refine (bget H.out 2 (by omega) (by omega) hl _ rfl).mono ?_
  rintro e w1 ⟨off', rfl, hR, hB⟩
  go_wp2_with fail
  refine (btake_short _ _ _ _ _ HLM.out HN.out).mono ?_
  rintro e w2 ⟨rfl, rfl⟩
  go_wp2_with fail
  go_ret3
  exact ⟨rfl, hB⟩

set_option maxHeartbeats 400000 in
theorem getText_yes {w : World} {b off len cap : Nat} {zs : List Int} (h : BRow w b off len cap zs) (hsm : len ≤ 140737488351232) (n : Nat) (hl : 2 + n ≤ len) (hn : numTo zs 2 = n) :
    Calls Tryd.prog 71 #[.slice (some ⟨b, off, none⟩) len cap] w fun e w' => ∃ off', e = .returned (.tuple #[.string (strOfNums ((zs.drop 2).take n)), .slice (some ⟨b, off', none⟩) (len - 2 - n) (cap - 2 - n), .int .i64 0]) ∧
      BRow w' b off' (len - 2 - n) (cap - 2 - n) (zs.drop (2 + n)) ∧ Below w.heap.size w w' := by
  have H : Hid _ := h
  have HN : Hid _ := hn
  clear h hn
  go_enter Tryd.func71, Tryd.ntmps71
  go_wp2_with fail
  refine (bget H.out 2 (by omega) (by omega) (by omega) _ rfl).mono ?_
  rintro e w1 ⟨off', rfl, hR, hB⟩
  have HR : Hid _ := hR
  clear hR
  go_wp2_with fail
  refine (btake HR.out n (by omega) (by omega) _ HN.out).mono ?_
  rintro e w2 ⟨off2, rfl, hX, hR2, hB2, _⟩
  have hcv := hX.conv
  rw [List.drop_drop] at hR2
  have HR2 : Hid _ := hR2
  obtain ⟨T, hT⟩ : ∃ T, T = strOfNums ((zs.drop 2).take n) := ⟨_, rfl⟩
  rw [← hT] at hcv
  have HT : Hid _ := hT
  clear hX hR2 hT
  go_wp2_with fail
  go_ret3
  exact ⟨off2, by rw [← HT.out]; rfl, HR2.out, hB.trans (hB2.mono hB.size)⟩
end Go.Proofs.YtnapeecmlkkolaaDoor
