/-
  Plain facts on numbers and bytes, with no program in them.
-/
import Derived.WalkKit
import Derived.Laws.BitsAllLaws
namespace Go.Proofs.Ytpbclipckkdgfaa
open Go.RowKit
set_option linter.unusedVariables false

/-- A number turned left by n bits. -/
def rot (x : Int) (n : Nat) : Int := bits .or .u64 (IntKind.u64.wrap (x * 2 ^ n)) (x / 2 ^ (64 - n))
/-- What a number does to the first half, and to the second. -/
def fst1 (k : Int) : Int := IntKind.u64.wrap (rot (IntKind.u64.wrap (k * 9782798678568883157)) 31 * 5545529020109919103)
def snd1 (k : Int) : Int := IntKind.u64.wrap (rot (IntKind.u64.wrap (k * 5545529020109919103)) 33 * 9782798678568883157)
def half (k : Int) : Int := bits .xor .u64 k (k / 8589934592)
def mixd (k : Int) : Int := half (IntKind.u64.wrap (half (IntKind.u64.wrap (half k * 18397679294719823053)) * 14181476777654086739))
/-- The end of the sum. -/
def finA (h g : Int) : Int := IntKind.u64.wrap (h + g)
def finB (h g : Int) : Int := IntKind.u64.wrap (mixd (finA h g) + mixd (IntKind.u64.wrap (g + finA h g)))
def fin1 (h g n : Int) : Int := finB (bits .xor .u64 h n) (bits .xor .u64 g n)
def fin2 (h g n : Int) : Int := IntKind.u64.wrap (mixd (IntKind.u64.wrap (bits .xor .u64 g n + finA (bits .xor .u64 h n) (bits .xor .u64 g n))) + fin1 h g n)
/-- One block laid into both halves. -/
def stpH (h g k : Int) : Int := IntKind.u64.wrap (IntKind.u64.wrap (IntKind.u64.wrap (rot (bits .xor .u64 h (fst1 k)) 27 + g) * 5) + 1390208809)
def stpG (h g m : Int) : Int := IntKind.u64.wrap (IntKind.u64.wrap (IntKind.u64.wrap (rot (bits .xor .u64 g (snd1 m)) 31 + h) * 5) + 944331445)
def stp (p : Int × Int) (k m : Int) : Int × Int := (stpH p.1 p.2 k, stpG (stpH p.1 p.2 k) p.2 m)

/-- The number of the first n bytes, the lowest first. -/
def low (f : Nat → Int) : Nat → Int
  | 0 => 0
  | n + 1 => low f n + f n * 2 ^ (8 * n)
/-- The same from above: the last t of eight. -/
def horn (f : Nat → Int) : Nat → Int
  | 0 => 0
  | t + 1 => horn f t * 256 + f (7 - t)

theorem low_bound (f : Nat → Int) (hr : ∀ i, 0 ≤ f i ∧ f i ≤ 255) (n : Nat) : 0 ≤ low f n ∧ low f n < 2 ^ (8 * n) := by
  induction n with
  | zero => simp [low]
  | succ n ih =>
    have hn := hr n
    have hp : (0 : Int) < 2 ^ (8 * n) := Int.pow_pos (by omega)
    have e : (2 : Int) ^ (8 * (n + 1)) = 2 ^ (8 * n) * 256 := by rw [Nat.mul_succ, Int.pow_add]; rfl
    have h1 : 0 ≤ f n * 2 ^ (8 * n) := Int.mul_nonneg hn.1 (by omega)
    have h2 : f n * 2 ^ (8 * n) ≤ 255 * 2 ^ (8 * n) := Int.mul_le_mul_of_nonneg_right hn.2 (by omega)
    rw [e]
    simp only [low]
    omega

theorem horn_low (f : Nat → Int) : horn f 8 = low f 8 := by
  simp only [horn, low]
  simp
  omega

theorem horn_bound (f : Nat → Int) (hr : ∀ i, 0 ≤ f i ∧ f i ≤ 255) (n : Nat) : 0 ≤ horn f n ∧ horn f n < 256 ^ n := by
  induction n with
  | zero => simp [horn]
  | succ n ih =>
    have hn := hr (7 - n)
    rw [Int.pow_succ]
    simp only [horn]
    omega

theorem horn_lt (f : Nat → Int) (hr : ∀ i, 0 ≤ f i ∧ f i ≤ 255) (n : Nat) (h8 : n ≤ 8) : 0 ≤ horn f n ∧ horn f n < 18446744073709551616 := by
  have hb := horn_bound f hr n
  have e : ∀ k : Fin 9, (256 : Int) ^ (k : Nat) ≤ 18446744073709551616 := by decide
  have := e ⟨n, by omega⟩
  simp only at this
  omega

/-- A byte laid over what is below it. -/
theorem or_low (f : Nat → Int) (hr : ∀ i, 0 ≤ f i ∧ f i ≤ 255) (n : Nat) (h : n < 8) : bits .or .u64 (low f n) (IntKind.u64.wrap (f n * 2 ^ (8 * n))) = low f (n + 1) := by
  have hb := low_bound f hr n
  have hb1 := low_bound f hr (n + 1)
  have hn := hr n
  have e : ∀ k : Fin 9, (2 : Int) ^ (8 * (k : Nat)) ≤ 18446744073709551616 := by decide
  have e1 := e ⟨n + 1, by omega⟩
  simp only at e1
  have hp : (0 : Int) < 2 ^ (8 * n) := Int.pow_pos (by omega)
  have h1 : 0 ≤ f n * 2 ^ (8 * n) := Int.mul_nonneg hn.1 (by omega)
  have hs : low f (n + 1) = low f n + f n * 2 ^ (8 * n) := rfl
  have hw : IntKind.u64.wrap (f n * 2 ^ (8 * n)) = f n * 2 ^ (8 * n) := by rw [IntKind.wrap_u64]; omega
  have hc : ((2 ^ (8 * n) : Nat) : Int) = 2 ^ (8 * n) := by rw [Int.natCast_pow]; rfl
  rw [hw, u64_or _ _ hb.1 (by omega) h1 (by omega), Nat.or_comm, nat_join (8 * n) _ _ ?_ (by omega), hs]
  · omega
  · obtain ⟨z, hz⟩ := Int.eq_ofNat_of_zero_le hn.1
    rw [hz, ← hc, ← Int.natCast_mul, Int.toNat_natCast]
    exact Nat.mul_mod_left _ _

theorem wrap_i8 (n : Int) : IntKind.i8.wrap n = (n + 128) % 256 - 128 := by
  simp [IntKind.wrap, IntKind.bits, IntKind.signed]
  split <;> omega

/-- What is laid over for a byte, with its sign, at place j. -/
def sgd (z : Int) : Int := IntKind.u64.wrap (IntKind.i8.wrap z)
def lay (z : Int) (j : Nat) : Int := IntKind.u64.wrap (sgd z * 2 ^ (8 * j))

theorem lay_zero (z : Int) : lay z 0 = sgd z := by
  unfold lay sgd
  simp only [IntKind.wrap_u64]
  omega

theorem lay_succ (z : Int) (j : Nat) : IntKind.u64.wrap (lay z j * 256) = lay z (j + 1) := by
  unfold lay
  rw [Nat.mul_succ, Int.pow_add, ← Int.mul_assoc]
  simp only [IntKind.wrap_u64]
  generalize sgd z * 2 ^ (8 * j) = y
  omega

/-- The document's words for a byte with its sign. -/
theorem sgd_low (z : Int) (h0 : 0 ≤ z) (h1 : z < 128) : z = lay z 0 := by
  rw [lay_zero]; unfold sgd
  rw [wrap_i8, IntKind.wrap_u64]
  omega

theorem sgd_high (z : Int) (h0 : 128 ≤ z) (h1 : z ≤ 255) : IntKind.u64.wrap (z - 256) = lay z 0 := by
  rw [lay_zero]; unfold sgd
  rw [wrap_i8, IntKind.wrap_u64, IntKind.wrap_u64]
  omega

/-- What is laid over one another of the first n bytes that are left. -/
def layK (f : Nat → Int) : Nat → Int
  | 0 => 0
  | i + 1 => if i < 8 then bits .xor .u64 (layK f i) (lay (f i) (i % 8)) else layK f i
def layM (f : Nat → Int) : Nat → Int
  | 0 => 0
  | i + 1 => if i < 8 then layM f i else bits .xor .u64 (layM f i) (lay (f i) (i % 8))

theorem layM_none (f : Nat → Int) (n : Nat) (h : n ≤ 8) : layM f n = 0 := by
  induction n with
  | zero => rfl
  | succ n ih => simp only [layM]; rw [if_pos (by omega)]; exact ih (by omega)

theorem wrap_range (x : Int) : 0 ≤ IntKind.u64.wrap x ∧ IntKind.u64.wrap x < 18446744073709551616 := by rw [IntKind.wrap_u64]; omega

theorem xor_comm (a b : Int) : bits .xor .u64 a b = bits .xor .u64 b a := by
  show IntKind.u64.wrap ((BitVec.ofInt 64 a ^^^ BitVec.ofInt 64 b).toNat : Nat) = IntKind.u64.wrap ((BitVec.ofInt 64 b ^^^ BitVec.ofInt 64 a).toNat : Nat)
  rw [BitVec.xor_comm]

theorem ofInt_xor (a b : Int) : BitVec.ofInt 64 (bits .xor .u64 a b) = BitVec.ofInt 64 a ^^^ BitVec.ofInt 64 b := by
  show BitVec.ofInt 64 (IntKind.u64.wrap ((BitVec.ofInt 64 a ^^^ BitVec.ofInt 64 b).toNat : Nat)) = _
  have hlt := (BitVec.ofInt 64 a ^^^ BitVec.ofInt 64 b).isLt
  have hw : IntKind.u64.wrap ((BitVec.ofInt 64 a ^^^ BitVec.ofInt 64 b).toNat : Nat) = ((BitVec.ofInt 64 a ^^^ BitVec.ofInt 64 b).toNat : Nat) := by rw [IntKind.wrap_u64]; omega
  rw [hw, BitVec.ofInt_natCast, BitVec.ofNat_toNat, BitVec.setWidth_eq]

theorem xor_assoc (a b c : Int) : bits .xor .u64 (bits .xor .u64 a b) c = bits .xor .u64 a (bits .xor .u64 b c) := by
  show IntKind.u64.wrap ((BitVec.ofInt 64 (bits .xor .u64 a b) ^^^ BitVec.ofInt 64 c).toNat : Nat) = IntKind.u64.wrap ((BitVec.ofInt 64 a ^^^ BitVec.ofInt 64 (bits .xor .u64 b c)).toNat : Nat)
  rw [ofInt_xor, ofInt_xor, BitVec.xor_assoc]

theorem xor_zero (a : Int) (h0 : 0 ≤ a) (h1 : a < 18446744073709551616) : bits .xor .u64 a 0 = a := by
  rw [u64_xor a 0 h0 h1 (by omega) (by omega)]
  simp; omega

/-- The halves behind j blocks. -/
def st (f : Nat → Int) : Nat → Int × Int
  | 0 => (0, 0)
  | j + 1 => stp (st f j) (low (fun i => f (16 * j + i)) 8) (low (fun i => f (16 * j + 8 + i)) 8)

theorem st_range (f : Nat → Int) (j : Nat) : (0 ≤ (st f j).1 ∧ (st f j).1 < 18446744073709551616) ∧ 0 ≤ (st f j).2 ∧ (st f j).2 < 18446744073709551616 := by
  cases j with
  | zero => simp [st]
  | succ j => exact ⟨wrap_range _, wrap_range _⟩

theorem fst1_zero : fst1 0 = 0 := by decide +kernel
theorem snd1_zero : snd1 0 = 0 := by decide +kernel

/-- Both halves with what is left laid over them. -/
def endH (f : Nat → Int) (n : Nat) : Int := bits .xor .u64 (st f (n / 16)).1 (fst1 (layK (fun i => f (16 * (n / 16) + i)) (n % 16)))
def endG (f : Nat → Int) (n : Nat) : Int := bits .xor .u64 (st f (n / 16)).2 (snd1 (layM (fun i => f (16 * (n / 16) + i)) (n % 16)))
/-- Both halves of the sum of the n bytes f. -/
def sumH (f : Nat → Int) (n : Nat) : Int := fin1 (endH f n) (endG f n) n
def sumG (f : Nat → Int) (n : Nat) : Int := fin2 (endH f n) (endG f n) n

theorem sumH_range (f : Nat → Int) (n : Nat) : 0 ≤ sumH f n ∧ sumH f n < 18446744073709551616 := wrap_range _

def tok (x : Int) : Int := if x = 9223372036854775808 then 9223372036854775807 else wrap64 x

theorem wrap64_eq (n : Int) : wrap64 n = (n + 9223372036854775808) % 18446744073709551616 - 9223372036854775808 := by unfold wrap64; omega

theorem tok_least {x : Int} (h0 : 0 ≤ x) (h1 : x < 18446744073709551616) : wrap64 x = -9223372036854775808 ↔ x = 9223372036854775808 := by
  rw [wrap64_eq]; omega

theorem sum_none (f : Nat → Int) : sumH f 0 = 0 := by
  have e : sumH f 0 = sumH (fun _ => 0) 0 := rfl
  rw [e]; decide +kernel
theorem sum_a : sumH (fun i => [97].getD i 0) 1 ≠ 0 := by decide +kernel
end Go.Proofs.Ytpbclipckkdgfaa
