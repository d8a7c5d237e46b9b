/-
  The contracts of murmur's Hash and Token, of bytes wherever they lie.
-/
import Derived.Test.YtpbclipckkdgfaaOver
import Derived.Test.YtpbclipckkdgfaaRHash
namespace Go.Proofs.Ytpbclipckkdgfaa
open Go.RowKit
set_option linter.unusedVariables false

/-- What stands ahead of each round of Hash. -/
def HRel (f : Nat → Int) (b off len cap : Nat) (w : World) (h g l : Value) (wr : World) : Prop :=
  ∃ j L C off' q : Nat, len = 16 * j + L ∧ cap = 16 * j + C ∧ (0 < L → off' = off + 16 * j) ∧ h = .int .u64 (st f j).1 ∧ g = .int .u64 (st f j).2 ∧ l = .slice (some ⟨b, off', none⟩) L C ∧ wr = w.drewN q

set_option maxHeartbeats 1000000 in
theorem hash_at (b off len cap : Nat) (f : Nat → Int) (w : World) (hlc : len ≤ cap) (hm : cap ≤ maxLen) (hcell : ∀ i, i < len → w.cell? ⟨b, off + i, none⟩ = some (.int .u8 (f i))) (hr : ∀ i, 0 ≤ f i ∧ f i ≤ 255) :
    Calls Try.prog 9 #[.slice (some ⟨b, off, none⟩) len cap] w fun e w' => ∃ q, e = .returned (.tuple #[.int .u64 (sumH f len), .int .u64 (sumG f len)]) ∧ w' = w.drewN q := by
  have HM : Hid (cap ≤ maxLen) := hm
  have HC : Hid (∀ i, i < len → w.cell? ⟨b, off + i, none⟩ = some (.int .u8 (f i))) := hcell
  have HR : Hid (∀ i, 0 ≤ f i ∧ f i ≤ 255) := hr
  unfold maxLen at hm
  clear hr hcell
  go_enter Try.func9, Try.ntmps9
  go_wp2
  go_loopw [4, 5, 6] (fun h g l wr => HRel f b off len cap w h g l wr) (fun _ _ l _ => match l with | .slice _ L _ => L | _ => 0)
  case atStart => exact ⟨0, len, cap, off, 0, by omega, by omega, fun _ => by omega, rfl, rfl, rfl, rfl⟩
  case round =>
    obtain ⟨j, L, C, off', q, hL, hC, ho, rfl, rfl, rfl, hW⟩ := hrel
    have HW : Hid (wr = w.drewN q) := hW
    have HL : Hid (len = 16 * j + L ∧ cap = 16 * j + C) := ⟨hL, hC⟩
    have hLC : L ≤ C := by omega
    clear hW
    have HCr : Hid (∀ q' i, i < len → (wr.drewN q').cell? ⟨b, off + i, none⟩ = some (.int .u8 (f i))) := fun q' i hi => by rw [HW.out]; simpa using HC.out i hi
    by_cases hlt : 16 ≤ L
    · have HO : Hid (off' = off + 16 * j) := ho (by omega)
      have HN1 : Hid (∀ q', Calls Try.prog 13 #[.slice (some ⟨b, off', none⟩) 8 C] (wr.drewN q') fun e w' => e = .returned (.int .u64 (low (fun i => f (16 * j + i)) 8)) ∧ w' = wr.drewN q') := fun q' =>
        number_at b off' C (fun i => f (16 * j + i)) (wr.drewN q') (by have := HM.out; omega) (by omega) (fun i hi => by have := HCr.out q' (16 * j + i) (by omega); rw [← Nat.add_assoc] at this; rw [HO.out]; exact this) (fun i => HR.out _)
      have HN2 : Hid (∀ q', Calls Try.prog 13 #[.slice (some ⟨b, off' + 8, none⟩) 8 (C - 8)] (wr.drewN q') fun e w' => e = .returned (.int .u64 (low (fun i => f (16 * j + 8 + i)) 8)) ∧ w' = wr.drewN q') := fun q' =>
        number_at b (off' + 8) (C - 8) (fun i => f (16 * j + 8 + i)) (wr.drewN q') (by have := HM.out; omega) (by omega) (fun i hi => by have := HCr.out q' (16 * j + 8 + i) (by omega); rw [← Nat.add_assoc, ← Nat.add_assoc] at this; rw [HO.out]; exact this) (fun i => HR.out _)
      clear ho
      have hC8 : ¬ C = 8 := by omega
      have hC8' : (8 : Int) ≤ C := by omega
      have hC16 : (16 : Int) ≤ C := by omega
      have hL16 : (16 : Int) ≤ L := by omega
      have hS : Hid (st f (j + 1) = stp (st f j) (low (fun i => f (16 * j + i)) 8) (low (fun i => f (16 * j + 8 + i)) 8)) := rfl
      obtain ⟨k, hk⟩ : ∃ k, k = low (fun i => f (16 * j + i)) 8 := ⟨_, rfl⟩
      obtain ⟨m, hmm⟩ : ∃ m, m = low (fun i => f (16 * j + 8 + i)) 8 := ⟨_, rfl⟩
      rw [← hk] at HN1 hS
      rw [← hmm] at HN2 hS
      clear hk hmm hL hC
      go_wp2_with fail
      refine wp_region_quiet_lit (by kernel_rfl) (by kernel_rfl) ?_
      go_big_quiet_step (fail)
      go_big_quiet_step (fail)
      go_big_quiet_step ((go_at_call 13; exact Calls.quiet_of_same (HN1.out _)))
      go_big_quiet_step (fail)
      go_big_quiet_step (fail)
      go_big_quiet_step ((go_at_call 13; exact Calls.quiet_of_same (HN2.out _)))
      go_big_quiet_step (fail)
      go_big_quiet_step (fail)
      refine wpQuiet_nil ?_
      rintro w4 ⟨q4, rfl⟩
      go_wp2_with (first | (go_at_call 15; refine (fst1_any _ _).mono ?_; rintro e w' ⟨rfl, rfl⟩) | (go_at_call 16; refine (snd1_any _ _).mono ?_; rintro e w' ⟨rfl, rfl⟩) | (go_at_call 14; refine (rot_any _ _ _ (by decide)).mono ?_; rintro e w' ⟨rfl, rfl⟩))
      by_cases hc16 : C = 16
      · go_roundw
        case rel => exact ⟨j + 1, L - 16, C - 16, off', q + q4, by have := HL.out; omega, by have := HL.out; omega, fun h => by omega, by rw [hS.out]; rfl, by rw [hS.out]; rfl, by simp [hc16], by rw [HW.out, World.drewN_drewN]⟩
        case measure => show L - 16 < L; omega
      · go_roundw
        case rel => exact ⟨j + 1, L - 16, C - 16, off' + 16, q + q4, by have := HL.out; omega, by have := HL.out; omega, fun h => by have := HO.out; omega, by rw [hS.out]; rfl, by rw [hS.out]; rfl, by rw [if_neg hc16], by rw [HW.out, World.drewN_drewN]⟩
        case measure => show L - 16 < L; omega
    · have hl : len / 16 = j := by omega
      have hl2 : len % 16 = L := by omega
      have HH : Hid (endH f len = bits .xor .u64 (st f j).1 (fst1 (layK (fun i => f (16 * j + i)) L))) := by show _ = _; unfold endH; rw [hl, hl2]
      have HG : Hid (endG f len = bits .xor .u64 (st f j).2 (snd1 (layM (fun i => f (16 * j + i)) L))) := by show _ = _; unfold endG; rw [hl, hl2]
      have HOV : Hid _ := over_any b off' C L (fun i => f (16 * j + i)) wr (by omega) (by have := HM.out; omega) (by omega) (fun i hi => by have := HCr.out 0 (16 * j + i) (by omega); rw [← Nat.add_assoc] at this; rw [ho (by omega)]; simpa using this)
      obtain ⟨k, hk⟩ : ∃ k, k = layK (fun i => f (16 * j + i)) L := ⟨_, rfl⟩
      obtain ⟨m, hmm⟩ : ∃ m, m = layM (fun i => f (16 * j + i)) L := ⟨_, rfl⟩
      rw [← hk] at HOV HH
      rw [← hmm] at HOV HG
      have hL15 : decide ((16 : Int) ≤ L) = false := by simp; omega
      obtain ⟨hj, hjj⟩ : ∃ x, x = (st f j).1 := ⟨_, rfl⟩
      obtain ⟨gj, hgj⟩ : ∃ x, x = (st f j).2 := ⟨_, rfl⟩
      have hw : IntKind.u64.wrap (len : Int) = len := by rw [IntKind.wrap_u64]; omega
      rw [← hjj] at HH ⊢
      rw [← hgj] at HG ⊢
      clear hk hmm hjj hgj hl hl2 ho hL hC
      go_wp2_with fail
      refine Calls.mono HOV.out ?_
      rintro e w5 ⟨rfl, rfl⟩
      go_wp2_with (first | (go_at_call 15; refine (fst1_any _ _).mono ?_; rintro e w' ⟨rfl, rfl⟩) | (go_at_call 16; refine (snd1_any _ _).mono ?_; rintro e w' ⟨rfl, rfl⟩) | (go_at_call 18; refine (fin_any _ _ _ _).mono ?_; rintro e w' ⟨rfl, rfl⟩))
      go_ret2
      refine ⟨q, ?_, HW.out⟩
      unfold sumH sumG
      rw [HH.out, HG.out]
      rfl

set_option maxHeartbeats 400000 in
theorem hash_nil (a : Option Addr) (f : Nat → Int) (w : World) : Calls Try.prog 9 #[.slice a 0 0] w fun e w' => ∃ q, e = .returned (.tuple #[.int .u64 (sumH f 0), .int .u64 (sumG f 0)]) ∧ w' = w.drewN q := by
  have HS : Hid (sumH f 0 = fin1 (bits .xor .u64 0 (fst1 0)) (bits .xor .u64 0 (snd1 0)) 0) := rfl
  have HG : Hid (sumG f 0 = fin2 (bits .xor .u64 0 (fst1 0)) (bits .xor .u64 0 (snd1 0)) 0) := rfl
  go_enter Try.func9, Try.ntmps9
  go_wp2
  go_loopw [4, 5, 6] (fun h g l wr => h = .int .u64 0 ∧ g = .int .u64 0 ∧ l = .slice a 0 0 ∧ wr = w) (fun _ _ _ _ => 0)
  case atStart => exact ⟨rfl, rfl, rfl, rfl⟩
  case round =>
    obtain ⟨rfl, rfl, rfl, rfl⟩ := hrel
    go_wp2_with (first | (go_at_call 17; refine (over_nil _ _).mono ?_; rintro e w' ⟨rfl, rfl⟩) | (go_at_call 15; refine (fst1_any _ _).mono ?_; rintro e w' ⟨rfl, rfl⟩) | (go_at_call 16; refine (snd1_any _ _).mono ?_; rintro e w' ⟨rfl, rfl⟩) | (go_at_call 18; refine (fin_any _ _ _ _).mono ?_; rintro e w' ⟨rfl, rfl⟩))
    go_ret2
    refine ⟨0, ?_, rfl⟩
    rw [HS.out, HG.out]
    rfl

theorem hash_any (a : Option Addr) (len cap : Nat) (f : Nat → Int) (w : World) (h : ByR w a len cap f) :
    Calls Try.prog 9 #[.slice a len cap] w fun e w' => ∃ q, e = .returned (.tuple #[.int .u64 (sumH f len), .int .u64 (sumG f len)]) ∧ w' = w.drewN q := by
  obtain ⟨hr, ⟨rfl, rfl⟩ | ⟨b, off, rfl, hlc, hm, hcell⟩⟩ := h
  · exact hash_nil a f w
  · exact hash_at b off len cap f w hlc hm hcell hr

theorem ByR.drewN {w : World} {a : Option Addr} {len cap : Nat} {f : Nat → Int} (h : ByR w a len cap f) (q : Nat) : ByR (w.drewN q) a len cap f := by
  obtain ⟨hr, h | ⟨b, off, rfl, hlc, hm, hcell⟩⟩ := h
  · exact ⟨hr, .inl h⟩
  · exact ⟨hr, .inr ⟨b, off, rfl, hlc, hm, fun i hi => by simpa using hcell i hi⟩⟩

set_option maxHeartbeats 400000 in
theorem token_any (a : Option Addr) (len cap : Nat) (f : Nat → Int) (w : World) (h : ByR w a len cap f) :
    Calls Try.prog 11 #[.slice a len cap] w fun e w' => ∃ q, e = .returned (.int .i64 (tok (sumH f len))) ∧ w' = w.drewN q := by
  have hx := sumH_range f len
  obtain ⟨x, hxx⟩ : ∃ x, x = sumH f len := ⟨_, rfl⟩
  have HC : Hid _ := hash_any a len cap f w h
  rw [← hxx] at hx HC ⊢
  clear hxx
  by_cases hs : x = 9223372036854775808
  · subst hs
    have HT : Hid (tok 9223372036854775808 = 9223372036854775807) := rfl
    have hw : wrap64 9223372036854775808 = -9223372036854775808 := by rw [wrap64_eq]; decide
    go_enter Try.func11, Try.ntmps11
    go_wp2_with fail
    refine Calls.mono HC.out ?_
    rintro e w1 ⟨q, rfl, rfl⟩
    go_wp2
    go_ret
    exact ⟨q, by rw [HT.out]; rfl, rfl⟩
  · have hn : (wrap64 x == -9223372036854775808) = false := by
      simpa using fun e => hs ((tok_least hx.1 hx.2).1 e)
    have HT : Hid (tok x = wrap64 x) := if_neg hs
    go_enter Try.func11, Try.ntmps11
    go_wp2_with fail
    refine Calls.mono HC.out ?_
    rintro e w1 ⟨q, rfl, rfl⟩
    go_wp2
    go_ret
    exact ⟨q, by rw [HT.out]; rfl, rfl⟩
end Go.Proofs.Ytpbclipckkdgfaa
