/-
  What overlay lays over one another, from the last byte to the first, is what the document lays from the first to the last.
-/
import Derived.Test.YtpbclipckkdgfaaMath
namespace Go.Proofs.Ytpbclipckkdgfaa
open Go.RowKit
set_option linter.unusedVariables false

theorem lay_1 (z : Int) : IntKind.u64.wrap (sgd z * 256) = lay z 1 := by
  have e : (2 : Int) ^ (8 * 1) = 256 := by decide
  unfold lay; rw [e]

theorem lay_2 (z : Int) : IntKind.u64.wrap (sgd z * 65536) = lay z 2 := by
  have e : (2 : Int) ^ (8 * 2) = 65536 := by decide
  unfold lay; rw [e]

theorem lay_3 (z : Int) : IntKind.u64.wrap (sgd z * 16777216) = lay z 3 := by
  have e : (2 : Int) ^ (8 * 3) = 16777216 := by decide
  unfold lay; rw [e]

theorem lay_4 (z : Int) : IntKind.u64.wrap (sgd z * 4294967296) = lay z 4 := by
  have e : (2 : Int) ^ (8 * 4) = 4294967296 := by decide
  unfold lay; rw [e]

theorem lay_5 (z : Int) : IntKind.u64.wrap (sgd z * 1099511627776) = lay z 5 := by
  have e : (2 : Int) ^ (8 * 5) = 1099511627776 := by decide
  unfold lay; rw [e]

theorem lay_6 (z : Int) : IntKind.u64.wrap (sgd z * 281474976710656) = lay z 6 := by
  have e : (2 : Int) ^ (8 * 6) = 281474976710656 := by decide
  unfold lay; rw [e]

theorem lay_7 (z : Int) : IntKind.u64.wrap (sgd z * 72057594037927936) = lay z 7 := by
  have e : (2 : Int) ^ (8 * 7) = 72057594037927936 := by decide
  unfold lay; rw [e]

theorem overK_1 (f : Nat → Int) : (bits .xor .u64 0 (sgd (f 0))) = layK f 1 := by
  haveI : Std.Associative (bits .xor .u64) := ⟨xor_assoc⟩
  haveI : Std.Commutative (bits .xor .u64) := ⟨xor_comm⟩
  have e : layK f 1 = (bits .xor .u64 0 (lay (f 0) 0)) := by simp [layK]
  rw [e, lay_zero]

theorem overK_2 (f : Nat → Int) : (bits .xor .u64 (bits .xor .u64 0 (IntKind.u64.wrap (sgd (f 1) * 256))) (sgd (f 0))) = layK f 2 := by
  haveI : Std.Associative (bits .xor .u64) := ⟨xor_assoc⟩
  haveI : Std.Commutative (bits .xor .u64) := ⟨xor_comm⟩
  have e : layK f 2 = (bits .xor .u64 (bits .xor .u64 0 (lay (f 0) 0)) (lay (f 1) 1)) := by simp [layK]
  rw [e, lay_zero]
  rw [lay_1]
  ac_rfl

theorem overK_3 (f : Nat → Int) : (bits .xor .u64 (bits .xor .u64 (bits .xor .u64 0 (IntKind.u64.wrap (sgd (f 2) * 65536))) (IntKind.u64.wrap (sgd (f 1) * 256))) (sgd (f 0))) = layK f 3 := by
  haveI : Std.Associative (bits .xor .u64) := ⟨xor_assoc⟩
  haveI : Std.Commutative (bits .xor .u64) := ⟨xor_comm⟩
  have e : layK f 3 = (bits .xor .u64 (bits .xor .u64 (bits .xor .u64 0 (lay (f 0) 0)) (lay (f 1) 1)) (lay (f 2) 2)) := by simp [layK]
  rw [e, lay_zero]
  rw [lay_1]
  rw [lay_2]
  ac_rfl

theorem overK_4 (f : Nat → Int) : (bits .xor .u64 (bits .xor .u64 (bits .xor .u64 (bits .xor .u64 0 (IntKind.u64.wrap (sgd (f 3) * 16777216))) (IntKind.u64.wrap (sgd (f 2) * 65536))) (IntKind.u64.wrap (sgd (f 1) * 256))) (sgd (f 0))) = layK f 4 := by
  haveI : Std.Associative (bits .xor .u64) := ⟨xor_assoc⟩
  haveI : Std.Commutative (bits .xor .u64) := ⟨xor_comm⟩
  have e : layK f 4 = (bits .xor .u64 (bits .xor .u64 (bits .xor .u64 (bits .xor .u64 0 (lay (f 0) 0)) (lay (f 1) 1)) (lay (f 2) 2)) (lay (f 3) 3)) := by simp [layK]
  rw [e, lay_zero]
  rw [lay_1]
  rw [lay_2]
  rw [lay_3]
  ac_rfl

theorem overK_5 (f : Nat → Int) : (bits .xor .u64 (bits .xor .u64 (bits .xor .u64 (bits .xor .u64 (bits .xor .u64 0 (IntKind.u64.wrap (sgd (f 4) * 4294967296))) (IntKind.u64.wrap (sgd (f 3) * 16777216))) (IntKind.u64.wrap (sgd (f 2) * 65536))) (IntKind.u64.wrap (sgd (f 1) * 256))) (sgd (f 0))) = layK f 5 := by
  haveI : Std.Associative (bits .xor .u64) := ⟨xor_assoc⟩
  haveI : Std.Commutative (bits .xor .u64) := ⟨xor_comm⟩
  have e : layK f 5 = (bits .xor .u64 (bits .xor .u64 (bits .xor .u64 (bits .xor .u64 (bits .xor .u64 0 (lay (f 0) 0)) (lay (f 1) 1)) (lay (f 2) 2)) (lay (f 3) 3)) (lay (f 4) 4)) := by simp [layK]
  rw [e, lay_zero]
  rw [lay_1]
  rw [lay_2]
  rw [lay_3]
  rw [lay_4]
  ac_rfl

theorem overK_6 (f : Nat → Int) : (bits .xor .u64 (bits .xor .u64 (bits .xor .u64 (bits .xor .u64 (bits .xor .u64 (bits .xor .u64 0 (IntKind.u64.wrap (sgd (f 5) * 1099511627776))) (IntKind.u64.wrap (sgd (f 4) * 4294967296))) (IntKind.u64.wrap (sgd (f 3) * 16777216))) (IntKind.u64.wrap (sgd (f 2) * 65536))) (IntKind.u64.wrap (sgd (f 1) * 256))) (sgd (f 0))) = layK f 6 := by
  haveI : Std.Associative (bits .xor .u64) := ⟨xor_assoc⟩
  haveI : Std.Commutative (bits .xor .u64) := ⟨xor_comm⟩
  have e : layK f 6 = (bits .xor .u64 (bits .xor .u64 (bits .xor .u64 (bits .xor .u64 (bits .xor .u64 (bits .xor .u64 0 (lay (f 0) 0)) (lay (f 1) 1)) (lay (f 2) 2)) (lay (f 3) 3)) (lay (f 4) 4)) (lay (f 5) 5)) := by simp [layK]
  rw [e, lay_zero]
  rw [lay_1]
  rw [lay_2]
  rw [lay_3]
  rw [lay_4]
  rw [lay_5]
  ac_rfl

theorem overK_7 (f : Nat → Int) : (bits .xor .u64 (bits .xor .u64 (bits .xor .u64 (bits .xor .u64 (bits .xor .u64 (bits .xor .u64 (bits .xor .u64 0 (IntKind.u64.wrap (sgd (f 6) * 281474976710656))) (IntKind.u64.wrap (sgd (f 5) * 1099511627776))) (IntKind.u64.wrap (sgd (f 4) * 4294967296))) (IntKind.u64.wrap (sgd (f 3) * 16777216))) (IntKind.u64.wrap (sgd (f 2) * 65536))) (IntKind.u64.wrap (sgd (f 1) * 256))) (sgd (f 0))) = layK f 7 := by
  haveI : Std.Associative (bits .xor .u64) := ⟨xor_assoc⟩
  haveI : Std.Commutative (bits .xor .u64) := ⟨xor_comm⟩
  have e : layK f 7 = (bits .xor .u64 (bits .xor .u64 (bits .xor .u64 (bits .xor .u64 (bits .xor .u64 (bits .xor .u64 (bits .xor .u64 0 (lay (f 0) 0)) (lay (f 1) 1)) (lay (f 2) 2)) (lay (f 3) 3)) (lay (f 4) 4)) (lay (f 5) 5)) (lay (f 6) 6)) := by simp [layK]
  rw [e, lay_zero]
  rw [lay_1]
  rw [lay_2]
  rw [lay_3]
  rw [lay_4]
  rw [lay_5]
  rw [lay_6]
  ac_rfl

theorem overK_8 (f : Nat → Int) : (bits .xor .u64 (bits .xor .u64 (bits .xor .u64 (bits .xor .u64 (bits .xor .u64 (bits .xor .u64 (bits .xor .u64 (bits .xor .u64 0 (IntKind.u64.wrap (sgd (f 7) * 72057594037927936))) (IntKind.u64.wrap (sgd (f 6) * 281474976710656))) (IntKind.u64.wrap (sgd (f 5) * 1099511627776))) (IntKind.u64.wrap (sgd (f 4) * 4294967296))) (IntKind.u64.wrap (sgd (f 3) * 16777216))) (IntKind.u64.wrap (sgd (f 2) * 65536))) (IntKind.u64.wrap (sgd (f 1) * 256))) (sgd (f 0))) = layK f 8 := by
  haveI : Std.Associative (bits .xor .u64) := ⟨xor_assoc⟩
  haveI : Std.Commutative (bits .xor .u64) := ⟨xor_comm⟩
  have e : layK f 8 = (bits .xor .u64 (bits .xor .u64 (bits .xor .u64 (bits .xor .u64 (bits .xor .u64 (bits .xor .u64 (bits .xor .u64 (bits .xor .u64 0 (lay (f 0) 0)) (lay (f 1) 1)) (lay (f 2) 2)) (lay (f 3) 3)) (lay (f 4) 4)) (lay (f 5) 5)) (lay (f 6) 6)) (lay (f 7) 7)) := by simp [layK]
  rw [e, lay_zero]
  rw [lay_1]
  rw [lay_2]
  rw [lay_3]
  rw [lay_4]
  rw [lay_5]
  rw [lay_6]
  rw [lay_7]
  ac_rfl

theorem overM_9 (f : Nat → Int) : (bits .xor .u64 0 (sgd (f 8))) = layM f 9 := by
  haveI : Std.Associative (bits .xor .u64) := ⟨xor_assoc⟩
  haveI : Std.Commutative (bits .xor .u64) := ⟨xor_comm⟩
  have e : layM f 9 = (bits .xor .u64 0 (lay (f 8) 0)) := by simp [layM]
  rw [e, lay_zero]

theorem overM_10 (f : Nat → Int) : (bits .xor .u64 (bits .xor .u64 0 (IntKind.u64.wrap (sgd (f 9) * 256))) (sgd (f 8))) = layM f 10 := by
  haveI : Std.Associative (bits .xor .u64) := ⟨xor_assoc⟩
  haveI : Std.Commutative (bits .xor .u64) := ⟨xor_comm⟩
  have e : layM f 10 = (bits .xor .u64 (bits .xor .u64 0 (lay (f 8) 0)) (lay (f 9) 1)) := by simp [layM]
  rw [e, lay_zero]
  rw [lay_1]
  ac_rfl

theorem overM_11 (f : Nat → Int) : (bits .xor .u64 (bits .xor .u64 (bits .xor .u64 0 (IntKind.u64.wrap (sgd (f 10) * 65536))) (IntKind.u64.wrap (sgd (f 9) * 256))) (sgd (f 8))) = layM f 11 := by
  haveI : Std.Associative (bits .xor .u64) := ⟨xor_assoc⟩
  haveI : Std.Commutative (bits .xor .u64) := ⟨xor_comm⟩
  have e : layM f 11 = (bits .xor .u64 (bits .xor .u64 (bits .xor .u64 0 (lay (f 8) 0)) (lay (f 9) 1)) (lay (f 10) 2)) := by simp [layM]
  rw [e, lay_zero]
  rw [lay_1]
  rw [lay_2]
  ac_rfl

theorem overM_12 (f : Nat → Int) : (bits .xor .u64 (bits .xor .u64 (bits .xor .u64 (bits .xor .u64 0 (IntKind.u64.wrap (sgd (f 11) * 16777216))) (IntKind.u64.wrap (sgd (f 10) * 65536))) (IntKind.u64.wrap (sgd (f 9) * 256))) (sgd (f 8))) = layM f 12 := by
  haveI : Std.Associative (bits .xor .u64) := ⟨xor_assoc⟩
  haveI : Std.Commutative (bits .xor .u64) := ⟨xor_comm⟩
  have e : layM f 12 = (bits .xor .u64 (bits .xor .u64 (bits .xor .u64 (bits .xor .u64 0 (lay (f 8) 0)) (lay (f 9) 1)) (lay (f 10) 2)) (lay (f 11) 3)) := by simp [layM]
  rw [e, lay_zero]
  rw [lay_1]
  rw [lay_2]
  rw [lay_3]
  ac_rfl

theorem overM_13 (f : Nat → Int) : (bits .xor .u64 (bits .xor .u64 (bits .xor .u64 (bits .xor .u64 (bits .xor .u64 0 (IntKind.u64.wrap (sgd (f 12) * 4294967296))) (IntKind.u64.wrap (sgd (f 11) * 16777216))) (IntKind.u64.wrap (sgd (f 10) * 65536))) (IntKind.u64.wrap (sgd (f 9) * 256))) (sgd (f 8))) = layM f 13 := by
  haveI : Std.Associative (bits .xor .u64) := ⟨xor_assoc⟩
  haveI : Std.Commutative (bits .xor .u64) := ⟨xor_comm⟩
  have e : layM f 13 = (bits .xor .u64 (bits .xor .u64 (bits .xor .u64 (bits .xor .u64 (bits .xor .u64 0 (lay (f 8) 0)) (lay (f 9) 1)) (lay (f 10) 2)) (lay (f 11) 3)) (lay (f 12) 4)) := by simp [layM]
  rw [e, lay_zero]
  rw [lay_1]
  rw [lay_2]
  rw [lay_3]
  rw [lay_4]
  ac_rfl

theorem overM_14 (f : Nat → Int) : (bits .xor .u64 (bits .xor .u64 (bits .xor .u64 (bits .xor .u64 (bits .xor .u64 (bits .xor .u64 0 (IntKind.u64.wrap (sgd (f 13) * 1099511627776))) (IntKind.u64.wrap (sgd (f 12) * 4294967296))) (IntKind.u64.wrap (sgd (f 11) * 16777216))) (IntKind.u64.wrap (sgd (f 10) * 65536))) (IntKind.u64.wrap (sgd (f 9) * 256))) (sgd (f 8))) = layM f 14 := by
  haveI : Std.Associative (bits .xor .u64) := ⟨xor_assoc⟩
  haveI : Std.Commutative (bits .xor .u64) := ⟨xor_comm⟩
  have e : layM f 14 = (bits .xor .u64 (bits .xor .u64 (bits .xor .u64 (bits .xor .u64 (bits .xor .u64 (bits .xor .u64 0 (lay (f 8) 0)) (lay (f 9) 1)) (lay (f 10) 2)) (lay (f 11) 3)) (lay (f 12) 4)) (lay (f 13) 5)) := by simp [layM]
  rw [e, lay_zero]
  rw [lay_1]
  rw [lay_2]
  rw [lay_3]
  rw [lay_4]
  rw [lay_5]
  ac_rfl

theorem overM_15 (f : Nat → Int) : (bits .xor .u64 (bits .xor .u64 (bits .xor .u64 (bits .xor .u64 (bits .xor .u64 (bits .xor .u64 (bits .xor .u64 0 (IntKind.u64.wrap (sgd (f 14) * 281474976710656))) (IntKind.u64.wrap (sgd (f 13) * 1099511627776))) (IntKind.u64.wrap (sgd (f 12) * 4294967296))) (IntKind.u64.wrap (sgd (f 11) * 16777216))) (IntKind.u64.wrap (sgd (f 10) * 65536))) (IntKind.u64.wrap (sgd (f 9) * 256))) (sgd (f 8))) = layM f 15 := by
  haveI : Std.Associative (bits .xor .u64) := ⟨xor_assoc⟩
  haveI : Std.Commutative (bits .xor .u64) := ⟨xor_comm⟩
  have e : layM f 15 = (bits .xor .u64 (bits .xor .u64 (bits .xor .u64 (bits .xor .u64 (bits .xor .u64 (bits .xor .u64 (bits .xor .u64 0 (lay (f 8) 0)) (lay (f 9) 1)) (lay (f 10) 2)) (lay (f 11) 3)) (lay (f 12) 4)) (lay (f 13) 5)) (lay (f 14) 6)) := by simp [layM]
  rw [e, lay_zero]
  rw [lay_1]
  rw [lay_2]
  rw [lay_3]
  rw [lay_4]
  rw [lay_5]
  rw [lay_6]
  ac_rfl

end Go.Proofs.Ytpbclipckkdgfaa
