/-
  Murmur: its mathematics and its small contracts (carried over).
-/
import Derived.Test.YtfkhcgkobffpiaaRows
import Derived.WalkKit
import Derived.Laws.BitsAllLaws
import Derived.WalkSpells
import Derived.WalkLawsBesides
import Derived.Deep.QuietTactic
import Derived.BigQuiet
import Derived.Deep.OwnRows
namespace Go.Proofs.Ytfkhcgkobffpiaa
namespace Mur
open Go.RowKit
set_option linter.unusedVariables false

/-- A number turned left by n bits. -/
def rot (x : Int) (n : Nat) : Int := bits .or .u64 (IntKind.u64.wrap (x * 2 ^ n)) (x / 2 ^ (64 - n))
/-- What a number does to the first half, and to the second. -/
def fst1 (k : Int) : Int := IntKind.u64.wrap (rot (IntKind.u64.wrap (k * 9782798678568883157)) 31 * 5545529020109919103)
def snd1 (k : Int) : Int := IntKind.u64.wrap (rot (IntKind.u64.wrap (k * 5545529020109919103)) 33 * 9782798678568883157)
def half (k : Int) : Int := bits .xor .u64 k (k / 8589934592)
def mixd (k : Int) : Int := half (IntKind.u64.wrap (half (IntKind.u64.wrap (half k * 18397679294719823053)) * 14181476777654086739))
/-- The end of the sum. -/
def finA (h g : Int) : Int := IntKind.u64.wrap (h + g)
def finB (h g : Int) : Int := IntKind.u64.wrap (mixd (finA h g) + mixd (IntKind.u64.wrap (g + finA h g)))
def fin1 (h g n : Int) : Int := finB (bits .xor .u64 h n) (bits .xor .u64 g n)
def fin2 (h g n : Int) : Int := IntKind.u64.wrap (mixd (IntKind.u64.wrap (bits .xor .u64 g n + finA (bits .xor .u64 h n) (bits .xor .u64 g n))) + fin1 h g n)
/-- One block laid into both halves. -/
def stpH (h g k : Int) : Int := IntKind.u64.wrap (IntKind.u64.wrap (IntKind.u64.wrap (rot (bits .xor .u64 h (fst1 k)) 27 + g) * 5) + 1390208809)
def stpG (h g m : Int) : Int := IntKind.u64.wrap (IntKind.u64.wrap (IntKind.u64.wrap (rot (bits .xor .u64 g (snd1 m)) 31 + h) * 5) + 944331445)
def stp (p : Int × Int) (k m : Int) : Int × Int := (stpH p.1 p.2 k, stpG (stpH p.1 p.2 k) p.2 m)

/-- The number of the first n bytes, the lowest first. -/
def low (f : Nat → Int) : Nat → Int
  | 0 => 0
  | n + 1 => low f n + f n * 2 ^ (8 * n)
/-- The same from above: the last t of eight. -/
def horn (f : Nat → Int) : Nat → Int
  | 0 => 0
  | t + 1 => horn f t * 256 + f (7 - t)

theorem low_bound (f : Nat → Int) (hr : ∀ i, 0 ≤ f i ∧ f i ≤ 255) (n : Nat) : 0 ≤ low f n ∧ low f n < 2 ^ (8 * n) := by
  induction n with
  | zero => simp [low]
  | succ n ih =>
    have hn := hr n
    have hp : (0 : Int) < 2 ^ (8 * n) := Int.pow_pos (by omega)
    have e : (2 : Int) ^ (8 * (n + 1)) = 2 ^ (8 * n) * 256 := by rw [Nat.mul_succ, Int.pow_add]; rfl
    have h1 : 0 ≤ f n * 2 ^ (8 * n) := Int.mul_nonneg hn.1 (by omega)
    have h2 : f n * 2 ^ (8 * n) ≤ 255 * 2 ^ (8 * n) := Int.mul_le_mul_of_nonneg_right hn.2 (by omega)
    rw [e]
    simp only [low]
    omega

theorem horn_low (f : Nat → Int) : horn f 8 = low f 8 := by
  simp only [horn, low]
  simp
  omega

theorem horn_bound (f : Nat → Int) (hr : ∀ i, 0 ≤ f i ∧ f i ≤ 255) (n : Nat) : 0 ≤ horn f n ∧ horn f n < 256 ^ n := by
  induction n with
  | zero => simp [horn]
  | succ n ih =>
    have hn := hr (7 - n)
    rw [Int.pow_succ]
    simp only [horn]
    omega

theorem horn_lt (f : Nat → Int) (hr : ∀ i, 0 ≤ f i ∧ f i ≤ 255) (n : Nat) (h8 : n ≤ 8) : 0 ≤ horn f n ∧ horn f n < 18446744073709551616 := by
  have hb := horn_bound f hr n
  have e : ∀ k : Fin 9, (256 : Int) ^ (k : Nat) ≤ 18446744073709551616 := by decide
  have := e ⟨n, by omega⟩
  simp only at this
  omega

/-- A byte laid over what is below it. -/
theorem or_low (f : Nat → Int) (hr : ∀ i, 0 ≤ f i ∧ f i ≤ 255) (n : Nat) (h : n < 8) : bits .or .u64 (low f n) (IntKind.u64.wrap (f n * 2 ^ (8 * n))) = low f (n + 1) := by
  have hb := low_bound f hr n
  have hb1 := low_bound f hr (n + 1)
  have hn := hr n
  have e : ∀ k : Fin 9, (2 : Int) ^ (8 * (k : Nat)) ≤ 18446744073709551616 := by decide
  have e1 := e ⟨n + 1, by omega⟩
  simp only at e1
  have hp : (0 : Int) < 2 ^ (8 * n) := Int.pow_pos (by omega)
  have h1 : 0 ≤ f n * 2 ^ (8 * n) := Int.mul_nonneg hn.1 (by omega)
  have hs : low f (n + 1) = low f n + f n * 2 ^ (8 * n) := rfl
  have hw : IntKind.u64.wrap (f n * 2 ^ (8 * n)) = f n * 2 ^ (8 * n) := by rw [IntKind.wrap_u64]; omega
  have hc : ((2 ^ (8 * n) : Nat) : Int) = 2 ^ (8 * n) := by rw [Int.natCast_pow]; rfl
  rw [hw, u64_or _ _ hb.1 (by omega) h1 (by omega), Nat.or_comm, nat_join (8 * n) _ _ ?_ (by omega), hs]
  · omega
  · obtain ⟨z, hz⟩ := Int.eq_ofNat_of_zero_le hn.1
    rw [hz, ← hc, ← Int.natCast_mul, Int.toNat_natCast]
    exact Nat.mul_mod_left _ _

theorem wrap_i8 (n : Int) : IntKind.i8.wrap n = (n + 128) % 256 - 128 := by
  simp [IntKind.wrap, IntKind.bits, IntKind.signed]
  split <;> omega

/-- What is laid over for a byte, with its sign, at place j. -/
def sgd (z : Int) : Int := IntKind.u64.wrap (IntKind.i8.wrap z)
def lay (z : Int) (j : Nat) : Int := IntKind.u64.wrap (sgd z * 2 ^ (8 * j))

theorem lay_zero (z : Int) : lay z 0 = sgd z := by
  unfold lay sgd
  simp only [IntKind.wrap_u64]
  omega

theorem lay_succ (z : Int) (j : Nat) : IntKind.u64.wrap (lay z j * 256) = lay z (j + 1) := by
  unfold lay
  rw [Nat.mul_succ, Int.pow_add, ← Int.mul_assoc]
  simp only [IntKind.wrap_u64]
  generalize sgd z * 2 ^ (8 * j) = y
  omega

/-- The document's words for a byte with its sign. -/
theorem sgd_low (z : Int) (h0 : 0 ≤ z) (h1 : z < 128) : z = lay z 0 := by
  rw [lay_zero]; unfold sgd
  rw [wrap_i8, IntKind.wrap_u64]
  omega

theorem sgd_high (z : Int) (h0 : 128 ≤ z) (h1 : z ≤ 255) : IntKind.u64.wrap (z - 256) = lay z 0 := by
  rw [lay_zero]; unfold sgd
  rw [wrap_i8, IntKind.wrap_u64, IntKind.wrap_u64]
  omega

/-- What is laid over one another of the first n bytes that are left. -/
def layK (f : Nat → Int) : Nat → Int
  | 0 => 0
  | i + 1 => if i < 8 then bits .xor .u64 (layK f i) (lay (f i) (i % 8)) else layK f i
def layM (f : Nat → Int) : Nat → Int
  | 0 => 0
  | i + 1 => if i < 8 then layM f i else bits .xor .u64 (layM f i) (lay (f i) (i % 8))

theorem layM_none (f : Nat → Int) (n : Nat) (h : n ≤ 8) : layM f n = 0 := by
  induction n with
  | zero => rfl
  | succ n ih => simp only [layM]; rw [if_pos (by omega)]; exact ih (by omega)

theorem wrap_range (x : Int) : 0 ≤ IntKind.u64.wrap x ∧ IntKind.u64.wrap x < 18446744073709551616 := by rw [IntKind.wrap_u64]; omega

theorem xor_comm (a b : Int) : bits .xor .u64 a b = bits .xor .u64 b a := by
  show IntKind.u64.wrap ((BitVec.ofInt 64 a ^^^ BitVec.ofInt 64 b).toNat : Nat) = IntKind.u64.wrap ((BitVec.ofInt 64 b ^^^ BitVec.ofInt 64 a).toNat : Nat)
  rw [BitVec.xor_comm]

theorem ofInt_xor (a b : Int) : BitVec.ofInt 64 (bits .xor .u64 a b) = BitVec.ofInt 64 a ^^^ BitVec.ofInt 64 b := by
  show BitVec.ofInt 64 (IntKind.u64.wrap ((BitVec.ofInt 64 a ^^^ BitVec.ofInt 64 b).toNat : Nat)) = _
  have hlt := (BitVec.ofInt 64 a ^^^ BitVec.ofInt 64 b).isLt
  have hw : IntKind.u64.wrap ((BitVec.ofInt 64 a ^^^ BitVec.ofInt 64 b).toNat : Nat) = ((BitVec.ofInt 64 a ^^^ BitVec.ofInt 64 b).toNat : Nat) := by rw [IntKind.wrap_u64]; omega
  rw [hw, BitVec.ofInt_natCast, BitVec.ofNat_toNat, BitVec.setWidth_eq]

theorem xor_assoc (a b c : Int) : bits .xor .u64 (bits .xor .u64 a b) c = bits .xor .u64 a (bits .xor .u64 b c) := by
  show IntKind.u64.wrap ((BitVec.ofInt 64 (bits .xor .u64 a b) ^^^ BitVec.ofInt 64 c).toNat : Nat) = IntKind.u64.wrap ((BitVec.ofInt 64 a ^^^ BitVec.ofInt 64 (bits .xor .u64 b c)).toNat : Nat)
  rw [ofInt_xor, ofInt_xor, BitVec.xor_assoc]

theorem xor_zero (a : Int) (h0 : 0 ≤ a) (h1 : a < 18446744073709551616) : bits .xor .u64 a 0 = a := by
  rw [u64_xor a 0 h0 h1 (by omega) (by omega)]
  simp; omega

/-- The halves behind j blocks. -/
def st (f : Nat → Int) : Nat → Int × Int
  | 0 => (0, 0)
  | j + 1 => stp (st f j) (low (fun i => f (16 * j + i)) 8) (low (fun i => f (16 * j + 8 + i)) 8)

theorem st_range (f : Nat → Int) (j : Nat) : (0 ≤ (st f j).1 ∧ (st f j).1 < 18446744073709551616) ∧ 0 ≤ (st f j).2 ∧ (st f j).2 < 18446744073709551616 := by
  cases j with
  | zero => simp [st]
  | succ j => exact ⟨wrap_range _, wrap_range _⟩

theorem fst1_zero : fst1 0 = 0 := by decide +kernel
theorem snd1_zero : snd1 0 = 0 := by decide +kernel

/-- Both halves with what is left laid over them. -/
def endH (f : Nat → Int) (n : Nat) : Int := bits .xor .u64 (st f (n / 16)).1 (fst1 (layK (fun i => f (16 * (n / 16) + i)) (n % 16)))
def endG (f : Nat → Int) (n : Nat) : Int := bits .xor .u64 (st f (n / 16)).2 (snd1 (layM (fun i => f (16 * (n / 16) + i)) (n % 16)))
/-- Both halves of the sum of the n bytes f. -/
def sumH (f : Nat → Int) (n : Nat) : Int := fin1 (endH f n) (endG f n) n
def sumG (f : Nat → Int) (n : Nat) : Int := fin2 (endH f n) (endG f n) n

theorem sumH_range (f : Nat → Int) (n : Nat) : 0 ≤ sumH f n ∧ sumH f n < 18446744073709551616 := wrap_range _

def tok (x : Int) : Int := if x = 9223372036854775808 then 9223372036854775807 else wrap64 x

theorem wrap64_eq (n : Int) : wrap64 n = (n + 9223372036854775808) % 18446744073709551616 - 9223372036854775808 := by unfold wrap64; omega

theorem tok_least {x : Int} (h0 : 0 ≤ x) (h1 : x < 18446744073709551616) : wrap64 x = -9223372036854775808 ↔ x = 9223372036854775808 := by
  rw [wrap64_eq]; omega

theorem sum_none (f : Nat → Int) : sumH f 0 = 0 := by
  have e : sumH f 0 = sumH (fun _ => 0) 0 := rfl
  rw [e]; decide +kernel
theorem sum_a : sumH (fun i => [97].getD i 0) 1 ≠ 0 := by decide +kernel
end Mur
end Go.Proofs.Ytfkhcgkobffpiaa

namespace Go.Proofs.Ytfkhcgkobffpiaa
namespace Mur
open Go.RowKit
set_option linter.unusedVariables false

theorem left_27 (x : Int) (w : World) : Calls Try.prog 36 #[.int .u64 x, .int .u64 27] w fun e w' => e = .returned (.int .u64 (rot x 27)) ∧ w' = w := by
  go_enter Try.func36, Try.ntmps36
  go_wp2
  go_ret
  exact ⟨rfl, rfl⟩

theorem rot_27 (x : Int) (w : World) : Calls Try.prog 31 #[.int .u64 x, .int .i64 27] w fun e w' => e = .returned (.int .u64 (rot x 27)) ∧ w' = w := by
  have h : bits .and .u64 27 63 = 27 := by decide
  go_enter Try.func31, Try.ntmps31
  go_wp2
  go_ret
  exact ⟨rfl, rfl⟩

theorem left_31 (x : Int) (w : World) : Calls Try.prog 36 #[.int .u64 x, .int .u64 31] w fun e w' => e = .returned (.int .u64 (rot x 31)) ∧ w' = w := by
  go_enter Try.func36, Try.ntmps36
  go_wp2
  go_ret
  exact ⟨rfl, rfl⟩

theorem rot_31 (x : Int) (w : World) : Calls Try.prog 31 #[.int .u64 x, .int .i64 31] w fun e w' => e = .returned (.int .u64 (rot x 31)) ∧ w' = w := by
  have h : bits .and .u64 31 63 = 31 := by decide
  go_enter Try.func31, Try.ntmps31
  go_wp2
  go_ret
  exact ⟨rfl, rfl⟩

theorem left_33 (x : Int) (w : World) : Calls Try.prog 36 #[.int .u64 x, .int .u64 33] w fun e w' => e = .returned (.int .u64 (rot x 33)) ∧ w' = w := by
  go_enter Try.func36, Try.ntmps36
  go_wp2
  go_ret
  exact ⟨rfl, rfl⟩

theorem rot_33 (x : Int) (w : World) : Calls Try.prog 31 #[.int .u64 x, .int .i64 33] w fun e w' => e = .returned (.int .u64 (rot x 33)) ∧ w' = w := by
  have h : bits .and .u64 33 63 = 33 := by decide
  go_enter Try.func31, Try.ntmps31
  go_wp2
  go_ret
  exact ⟨rfl, rfl⟩

theorem rot_any (x n : Int) (w : World) (h : n = 27 ∨ n = 31 ∨ n = 33) : Calls Try.prog 31 #[.int .u64 x, .int .i64 n] w fun e w' => e = .returned (.int .u64 (rot x n.toNat)) ∧ w' = w := by
  rcases h with rfl | rfl | rfl
  · exact rot_27 x w
  · exact rot_31 x w
  · exact rot_33 x w

theorem left_any (x n : Int) (w : World) (h : n = 27 ∨ n = 31 ∨ n = 33) : Calls Try.prog 36 #[.int .u64 x, .int .u64 n] w fun e w' => e = .returned (.int .u64 (rot x n.toNat)) ∧ w' = w := by
  rcases h with rfl | rfl | rfl
  · exact left_27 x w
  · exact left_31 x w
  · exact left_33 x w

theorem fst1_any (x : Int) (w : World) : Calls Try.prog 32 #[.int .u64 x] w fun e w' => e = .returned (.int .u64 (fst1 x)) ∧ w' = w := by
  go_enter Try.func32, Try.ntmps32
  go_wp2_with (go_at_call 31; refine (rot_31 _ _).mono ?_; rintro e w' ⟨rfl, rfl⟩)
  go_ret
  exact ⟨rfl, rfl⟩

theorem snd1_any (x : Int) (w : World) : Calls Try.prog 33 #[.int .u64 x] w fun e w' => e = .returned (.int .u64 (snd1 x)) ∧ w' = w := by
  go_enter Try.func33, Try.ntmps33
  go_wp2_with (go_at_call 31; refine (rot_33 _ _).mono ?_; rintro e w' ⟨rfl, rfl⟩)
  go_ret
  exact ⟨rfl, rfl⟩

theorem rfst1_any (x : Int) (w : World) : Calls Try.prog 37 #[.int .u64 x] w fun e w' => e = .returned (.int .u64 (fst1 x)) ∧ w' = w := by
  go_enter Try.func37, Try.ntmps37
  go_wp2_with (go_at_call 36; refine (left_31 _ _).mono ?_; rintro e w' ⟨rfl, rfl⟩)
  go_ret
  exact ⟨rfl, rfl⟩

theorem rsnd1_any (x : Int) (w : World) : Calls Try.prog 38 #[.int .u64 x] w fun e w' => e = .returned (.int .u64 (snd1 x)) ∧ w' = w := by
  go_enter Try.func38, Try.ntmps38
  go_wp2_with (go_at_call 36; refine (left_33 _ _).mono ?_; rintro e w' ⟨rfl, rfl⟩)
  go_ret
  exact ⟨rfl, rfl⟩

theorem rmix_any (x : Int) (w : World) : Calls Try.prog 39 #[.int .u64 x] w fun e w' => e = .returned (.int .u64 (mixd x)) ∧ w' = w := by
  go_enter Try.func39, Try.ntmps39
  go_wp2
  go_ret
  exact ⟨rfl, rfl⟩

theorem mix_any (x : Int) (w : World) : Calls Try.prog 41 #[.int .u64 x] w fun e w' => e = .returned (.int .u64 (mixd x)) ∧ w' = w := by
  go_enter Try.func41, Try.ntmps41
  go_wp2
  go_ret
  exact ⟨rfl, rfl⟩

theorem signed_any (x : Int) (w : World) : Calls Try.prog 40 #[.int .u8 x] w fun e w' => e = .returned (.int .u64 (sgd x)) ∧ w' = w := by
  go_enter Try.func40, Try.ntmps40
  go_wp2
  go_ret
  exact ⟨rfl, rfl⟩

theorem fin_any (h g n : Int) (w : World) : Calls Try.prog 35 #[.int .u64 h, .int .u64 g, .int .u64 n] w fun e w' => e = .returned (.tuple #[.int .u64 (fin1 h g n), .int .u64 (fin2 h g n)]) ∧ w' = w := by
  go_enter Try.func35, Try.ntmps35
  go_wp2_with (go_at_call 41; refine (mix_any _ _).mono ?_; rintro e w' ⟨rfl, rfl⟩)
  go_ret2
  exact ⟨rfl, rfl⟩

set_option maxHeartbeats 400000 in
theorem number_at (b off cap : Nat) (f : Nat → Int) (w : World) (hm : cap ≤ maxLen) (hc : 8 ≤ cap) (hcell : ∀ i, i < 8 → w.cell? ⟨b, off + i, none⟩ = some (.int .u8 (f i))) (hr : ∀ i, 0 ≤ f i ∧ f i ≤ 255) :
    Calls Try.prog 30 #[.slice (some ⟨b, off, none⟩) 8 cap] w fun e w' => e = .returned (.int .u64 (low f 8)) ∧ w' = w := by
  have HR : Hid (∀ i, 0 ≤ f i ∧ f i ≤ 255) := hr
  clear hr
  go_enter Try.func30, Try.ntmps30
  go_wp2
  go_loopw [3, 5] (fun x i wr => ∃ k : Nat, k ≤ 8 ∧ i = .int .i64 k ∧ x = .int .u64 (low f k) ∧ wr = w) (fun _ i _ => 8 - (intOf i).toNat)
  case atStart => exact ⟨0, by omega, rfl, rfl, rfl⟩
  case round =>
    obtain ⟨k, hk, rfl, rfl, rfl⟩ := hrel
    by_cases hlt : k < 8
    · have hck := hcell k hlt
      have hwk : IntKind.u64.wrap (f k) = f k := by rw [IntKind.wrap_u64]; have := HR.out k; omega
      have HE : Hid _ := or_low f HR.out k hlt
      go_wp2
      go_roundw
      case rel => exact ⟨k + 1, by omega, by go_num, by rw [← HE.out], trivial⟩
      case measure => simp [intOf]; omega
    · obtain rfl : k = 8 := by omega
      go_wp2
      go_ret
      exact ⟨rfl, rfl⟩
end Mur
end Go.Proofs.Ytfkhcgkobffpiaa

namespace Go.Proofs.Ytfkhcgkobffpiaa
namespace Mur
open Go.RowKit
set_option linter.unusedVariables false

theorem lay_1 (z : Int) : IntKind.u64.wrap (sgd z * 256) = lay z 1 := by
  have e : (2 : Int) ^ (8 * 1) = 256 := by decide
  unfold lay; rw [e]

theorem lay_2 (z : Int) : IntKind.u64.wrap (sgd z * 65536) = lay z 2 := by
  have e : (2 : Int) ^ (8 * 2) = 65536 := by decide
  unfold lay; rw [e]

theorem lay_3 (z : Int) : IntKind.u64.wrap (sgd z * 16777216) = lay z 3 := by
  have e : (2 : Int) ^ (8 * 3) = 16777216 := by decide
  unfold lay; rw [e]

theorem lay_4 (z : Int) : IntKind.u64.wrap (sgd z * 4294967296) = lay z 4 := by
  have e : (2 : Int) ^ (8 * 4) = 4294967296 := by decide
  unfold lay; rw [e]

theorem lay_5 (z : Int) : IntKind.u64.wrap (sgd z * 1099511627776) = lay z 5 := by
  have e : (2 : Int) ^ (8 * 5) = 1099511627776 := by decide
  unfold lay; rw [e]

theorem lay_6 (z : Int) : IntKind.u64.wrap (sgd z * 281474976710656) = lay z 6 := by
  have e : (2 : Int) ^ (8 * 6) = 281474976710656 := by decide
  unfold lay; rw [e]

theorem lay_7 (z : Int) : IntKind.u64.wrap (sgd z * 72057594037927936) = lay z 7 := by
  have e : (2 : Int) ^ (8 * 7) = 72057594037927936 := by decide
  unfold lay; rw [e]

theorem overK_1 (f : Nat → Int) : (bits .xor .u64 0 (sgd (f 0))) = layK f 1 := by
  haveI : Std.Associative (bits .xor .u64) := ⟨xor_assoc⟩
  haveI : Std.Commutative (bits .xor .u64) := ⟨xor_comm⟩
  have e : layK f 1 = (bits .xor .u64 0 (lay (f 0) 0)) := by simp [layK]
  rw [e, lay_zero]

theorem overK_2 (f : Nat → Int) : (bits .xor .u64 (bits .xor .u64 0 (IntKind.u64.wrap (sgd (f 1) * 256))) (sgd (f 0))) = layK f 2 := by
  haveI : Std.Associative (bits .xor .u64) := ⟨xor_assoc⟩
  haveI : Std.Commutative (bits .xor .u64) := ⟨xor_comm⟩
  have e : layK f 2 = (bits .xor .u64 (bits .xor .u64 0 (lay (f 0) 0)) (lay (f 1) 1)) := by simp [layK]
  rw [e, lay_zero]
  rw [lay_1]
  ac_rfl

theorem overK_3 (f : Nat → Int) : (bits .xor .u64 (bits .xor .u64 (bits .xor .u64 0 (IntKind.u64.wrap (sgd (f 2) * 65536))) (IntKind.u64.wrap (sgd (f 1) * 256))) (sgd (f 0))) = layK f 3 := by
  haveI : Std.Associative (bits .xor .u64) := ⟨xor_assoc⟩
  haveI : Std.Commutative (bits .xor .u64) := ⟨xor_comm⟩
  have e : layK f 3 = (bits .xor .u64 (bits .xor .u64 (bits .xor .u64 0 (lay (f 0) 0)) (lay (f 1) 1)) (lay (f 2) 2)) := by simp [layK]
  rw [e, lay_zero]
  rw [lay_1]
  rw [lay_2]
  ac_rfl

theorem overK_4 (f : Nat → Int) : (bits .xor .u64 (bits .xor .u64 (bits .xor .u64 (bits .xor .u64 0 (IntKind.u64.wrap (sgd (f 3) * 16777216))) (IntKind.u64.wrap (sgd (f 2) * 65536))) (IntKind.u64.wrap (sgd (f 1) * 256))) (sgd (f 0))) = layK f 4 := by
  haveI : Std.Associative (bits .xor .u64) := ⟨xor_assoc⟩
  haveI : Std.Commutative (bits .xor .u64) := ⟨xor_comm⟩
  have e : layK f 4 = (bits .xor .u64 (bits .xor .u64 (bits .xor .u64 (bits .xor .u64 0 (lay (f 0) 0)) (lay (f 1) 1)) (lay (f 2) 2)) (lay (f 3) 3)) := by simp [layK]
  rw [e, lay_zero]
  rw [lay_1]
  rw [lay_2]
  rw [lay_3]
  ac_rfl

theorem overK_5 (f : Nat → Int) : (bits .xor .u64 (bits .xor .u64 (bits .xor .u64 (bits .xor .u64 (bits .xor .u64 0 (IntKind.u64.wrap (sgd (f 4) * 4294967296))) (IntKind.u64.wrap (sgd (f 3) * 16777216))) (IntKind.u64.wrap (sgd (f 2) * 65536))) (IntKind.u64.wrap (sgd (f 1) * 256))) (sgd (f 0))) = layK f 5 := by
  haveI : Std.Associative (bits .xor .u64) := ⟨xor_assoc⟩
  haveI : Std.Commutative (bits .xor .u64) := ⟨xor_comm⟩
  have e : layK f 5 = (bits .xor .u64 (bits .xor .u64 (bits .xor .u64 (bits .xor .u64 (bits .xor .u64 0 (lay (f 0) 0)) (lay (f 1) 1)) (lay (f 2) 2)) (lay (f 3) 3)) (lay (f 4) 4)) := by simp [layK]
  rw [e, lay_zero]
  rw [lay_1]
  rw [lay_2]
  rw [lay_3]
  rw [lay_4]
  ac_rfl

theorem overK_6 (f : Nat → Int) : (bits .xor .u64 (bits .xor .u64 (bits .xor .u64 (bits .xor .u64 (bits .xor .u64 (bits .xor .u64 0 (IntKind.u64.wrap (sgd (f 5) * 1099511627776))) (IntKind.u64.wrap (sgd (f 4) * 4294967296))) (IntKind.u64.wrap (sgd (f 3) * 16777216))) (IntKind.u64.wrap (sgd (f 2) * 65536))) (IntKind.u64.wrap (sgd (f 1) * 256))) (sgd (f 0))) = layK f 6 := by
  haveI : Std.Associative (bits .xor .u64) := ⟨xor_assoc⟩
  haveI : Std.Commutative (bits .xor .u64) := ⟨xor_comm⟩
  have e : layK f 6 = (bits .xor .u64 (bits .xor .u64 (bits .xor .u64 (bits .xor .u64 (bits .xor .u64 (bits .xor .u64 0 (lay (f 0) 0)) (lay (f 1) 1)) (lay (f 2) 2)) (lay (f 3) 3)) (lay (f 4) 4)) (lay (f 5) 5)) := by simp [layK]
  rw [e, lay_zero]
  rw [lay_1]
  rw [lay_2]
  rw [lay_3]
  rw [lay_4]
  rw [lay_5]
  ac_rfl

theorem overK_7 (f : Nat → Int) : (bits .xor .u64 (bits .xor .u64 (bits .xor .u64 (bits .xor .u64 (bits .xor .u64 (bits .xor .u64 (bits .xor .u64 0 (IntKind.u64.wrap (sgd (f 6) * 281474976710656))) (IntKind.u64.wrap (sgd (f 5) * 1099511627776))) (IntKind.u64.wrap (sgd (f 4) * 4294967296))) (IntKind.u64.wrap (sgd (f 3) * 16777216))) (IntKind.u64.wrap (sgd (f 2) * 65536))) (IntKind.u64.wrap (sgd (f 1) * 256))) (sgd (f 0))) = layK f 7 := by
  haveI : Std.Associative (bits .xor .u64) := ⟨xor_assoc⟩
  haveI : Std.Commutative (bits .xor .u64) := ⟨xor_comm⟩
  have e : layK f 7 = (bits .xor .u64 (bits .xor .u64 (bits .xor .u64 (bits .xor .u64 (bits .xor .u64 (bits .xor .u64 (bits .xor .u64 0 (lay (f 0) 0)) (lay (f 1) 1)) (lay (f 2) 2)) (lay (f 3) 3)) (lay (f 4) 4)) (lay (f 5) 5)) (lay (f 6) 6)) := by simp [layK]
  rw [e, lay_zero]
  rw [lay_1]
  rw [lay_2]
  rw [lay_3]
  rw [lay_4]
  rw [lay_5]
  rw [lay_6]
  ac_rfl

theorem overK_8 (f : Nat → Int) : (bits .xor .u64 (bits .xor .u64 (bits .xor .u64 (bits .xor .u64 (bits .xor .u64 (bits .xor .u64 (bits .xor .u64 (bits .xor .u64 0 (IntKind.u64.wrap (sgd (f 7) * 72057594037927936))) (IntKind.u64.wrap (sgd (f 6) * 281474976710656))) (IntKind.u64.wrap (sgd (f 5) * 1099511627776))) (IntKind.u64.wrap (sgd (f 4) * 4294967296))) (IntKind.u64.wrap (sgd (f 3) * 16777216))) (IntKind.u64.wrap (sgd (f 2) * 65536))) (IntKind.u64.wrap (sgd (f 1) * 256))) (sgd (f 0))) = layK f 8 := by
  haveI : Std.Associative (bits .xor .u64) := ⟨xor_assoc⟩
  haveI : Std.Commutative (bits .xor .u64) := ⟨xor_comm⟩
  have e : layK f 8 = (bits .xor .u64 (bits .xor .u64 (bits .xor .u64 (bits .xor .u64 (bits .xor .u64 (bits .xor .u64 (bits .xor .u64 (bits .xor .u64 0 (lay (f 0) 0)) (lay (f 1) 1)) (lay (f 2) 2)) (lay (f 3) 3)) (lay (f 4) 4)) (lay (f 5) 5)) (lay (f 6) 6)) (lay (f 7) 7)) := by simp [layK]
  rw [e, lay_zero]
  rw [lay_1]
  rw [lay_2]
  rw [lay_3]
  rw [lay_4]
  rw [lay_5]
  rw [lay_6]
  rw [lay_7]
  ac_rfl

theorem overM_9 (f : Nat → Int) : (bits .xor .u64 0 (sgd (f 8))) = layM f 9 := by
  haveI : Std.Associative (bits .xor .u64) := ⟨xor_assoc⟩
  haveI : Std.Commutative (bits .xor .u64) := ⟨xor_comm⟩
  have e : layM f 9 = (bits .xor .u64 0 (lay (f 8) 0)) := by simp [layM]
  rw [e, lay_zero]

theorem overM_10 (f : Nat → Int) : (bits .xor .u64 (bits .xor .u64 0 (IntKind.u64.wrap (sgd (f 9) * 256))) (sgd (f 8))) = layM f 10 := by
  haveI : Std.Associative (bits .xor .u64) := ⟨xor_assoc⟩
  haveI : Std.Commutative (bits .xor .u64) := ⟨xor_comm⟩
  have e : layM f 10 = (bits .xor .u64 (bits .xor .u64 0 (lay (f 8) 0)) (lay (f 9) 1)) := by simp [layM]
  rw [e, lay_zero]
  rw [lay_1]
  ac_rfl

theorem overM_11 (f : Nat → Int) : (bits .xor .u64 (bits .xor .u64 (bits .xor .u64 0 (IntKind.u64.wrap (sgd (f 10) * 65536))) (IntKind.u64.wrap (sgd (f 9) * 256))) (sgd (f 8))) = layM f 11 := by
  haveI : Std.Associative (bits .xor .u64) := ⟨xor_assoc⟩
  haveI : Std.Commutative (bits .xor .u64) := ⟨xor_comm⟩
  have e : layM f 11 = (bits .xor .u64 (bits .xor .u64 (bits .xor .u64 0 (lay (f 8) 0)) (lay (f 9) 1)) (lay (f 10) 2)) := by simp [layM]
  rw [e, lay_zero]
  rw [lay_1]
  rw [lay_2]
  ac_rfl

theorem overM_12 (f : Nat → Int) : (bits .xor .u64 (bits .xor .u64 (bits .xor .u64 (bits .xor .u64 0 (IntKind.u64.wrap (sgd (f 11) * 16777216))) (IntKind.u64.wrap (sgd (f 10) * 65536))) (IntKind.u64.wrap (sgd (f 9) * 256))) (sgd (f 8))) = layM f 12 := by
  haveI : Std.Associative (bits .xor .u64) := ⟨xor_assoc⟩
  haveI : Std.Commutative (bits .xor .u64) := ⟨xor_comm⟩
  have e : layM f 12 = (bits .xor .u64 (bits .xor .u64 (bits .xor .u64 (bits .xor .u64 0 (lay (f 8) 0)) (lay (f 9) 1)) (lay (f 10) 2)) (lay (f 11) 3)) := by simp [layM]
  rw [e, lay_zero]
  rw [lay_1]
  rw [lay_2]
  rw [lay_3]
  ac_rfl

theorem overM_13 (f : Nat → Int) : (bits .xor .u64 (bits .xor .u64 (bits .xor .u64 (bits .xor .u64 (bits .xor .u64 0 (IntKind.u64.wrap (sgd (f 12) * 4294967296))) (IntKind.u64.wrap (sgd (f 11) * 16777216))) (IntKind.u64.wrap (sgd (f 10) * 65536))) (IntKind.u64.wrap (sgd (f 9) * 256))) (sgd (f 8))) = layM f 13 := by
  haveI : Std.Associative (bits .xor .u64) := ⟨xor_assoc⟩
  haveI : Std.Commutative (bits .xor .u64) := ⟨xor_comm⟩
  have e : layM f 13 = (bits .xor .u64 (bits .xor .u64 (bits .xor .u64 (bits .xor .u64 (bits .xor .u64 0 (lay (f 8) 0)) (lay (f 9) 1)) (lay (f 10) 2)) (lay (f 11) 3)) (lay (f 12) 4)) := by simp [layM]
  rw [e, lay_zero]
  rw [lay_1]
  rw [lay_2]
  rw [lay_3]
  rw [lay_4]
  ac_rfl

theorem overM_14 (f : Nat → Int) : (bits .xor .u64 (bits .xor .u64 (bits .xor .u64 (bits .xor .u64 (bits .xor .u64 (bits .xor .u64 0 (IntKind.u64.wrap (sgd (f 13) * 1099511627776))) (IntKind.u64.wrap (sgd (f 12) * 4294967296))) (IntKind.u64.wrap (sgd (f 11) * 16777216))) (IntKind.u64.wrap (sgd (f 10) * 65536))) (IntKind.u64.wrap (sgd (f 9) * 256))) (sgd (f 8))) = layM f 14 := by
  haveI : Std.Associative (bits .xor .u64) := ⟨xor_assoc⟩
  haveI : Std.Commutative (bits .xor .u64) := ⟨xor_comm⟩
  have e : layM f 14 = (bits .xor .u64 (bits .xor .u64 (bits .xor .u64 (bits .xor .u64 (bits .xor .u64 (bits .xor .u64 0 (lay (f 8) 0)) (lay (f 9) 1)) (lay (f 10) 2)) (lay (f 11) 3)) (lay (f 12) 4)) (lay (f 13) 5)) := by simp [layM]
  rw [e, lay_zero]
  rw [lay_1]
  rw [lay_2]
  rw [lay_3]
  rw [lay_4]
  rw [lay_5]
  ac_rfl

theorem overM_15 (f : Nat → Int) : (bits .xor .u64 (bits .xor .u64 (bits .xor .u64 (bits .xor .u64 (bits .xor .u64 (bits .xor .u64 (bits .xor .u64 0 (IntKind.u64.wrap (sgd (f 14) * 281474976710656))) (IntKind.u64.wrap (sgd (f 13) * 1099511627776))) (IntKind.u64.wrap (sgd (f 12) * 4294967296))) (IntKind.u64.wrap (sgd (f 11) * 16777216))) (IntKind.u64.wrap (sgd (f 10) * 65536))) (IntKind.u64.wrap (sgd (f 9) * 256))) (sgd (f 8))) = layM f 15 := by
  haveI : Std.Associative (bits .xor .u64) := ⟨xor_assoc⟩
  haveI : Std.Commutative (bits .xor .u64) := ⟨xor_comm⟩
  have e : layM f 15 = (bits .xor .u64 (bits .xor .u64 (bits .xor .u64 (bits .xor .u64 (bits .xor .u64 (bits .xor .u64 (bits .xor .u64 0 (lay (f 8) 0)) (lay (f 9) 1)) (lay (f 10) 2)) (lay (f 11) 3)) (lay (f 12) 4)) (lay (f 13) 5)) (lay (f 14) 6)) := by simp [layM]
  rw [e, lay_zero]
  rw [lay_1]
  rw [lay_2]
  rw [lay_3]
  rw [lay_4]
  rw [lay_5]
  rw [lay_6]
  ac_rfl


end Mur
end Go.Proofs.Ytfkhcgkobffpiaa
