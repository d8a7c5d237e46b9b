/-
  The contracts of prims.Long and prims.GetLong.
-/
import Derived.Test.YtcecdklgiocbaaaCutMath
namespace Go.Proofs.Ytcecdklgiocbaaa
open Go.RowKit
set_option maxRecDepth 100000
set_option linter.unusedVariables false
set_option linter.unusedSimpArgs false

def longA (zs : List Int) : Ans :=
  if zs.length < 4 then ⟨0, [], 0, 10⟩ else if int4 zs < 0 then ⟨0, [], 0, 11⟩ else if ((zs.length - 4 : Nat) : Int) < int4 zs then ⟨0, [], 0, 10⟩ else ⟨0, (zs.drop 4).take (int4 zs).toNat, 4 + (int4 zs).toNat, 0⟩

set_option maxHeartbeats 400000 in
theorem getLong_short0 (a : Option Addr) (len cap : Nat) (w : World) (hl : len < 4) :
    Calls Try.prog 39 #[.slice a len cap] w fun e w' => e = .returned (.tuple #[.string ByteArray.empty, .slice none 0 0, .int .i64 10]) ∧ Below w.heap.size w w' := by
  go_enter Try.func39, Try.ntmps39
  go_wp2_with fail
  refine (getInt_short a len cap _ hl).mono ?_
  rintro e w1 ⟨rfl, rfl⟩
  go_wp2_with fail
  go_ret3
  exact ⟨rfl, Below.refl _ _⟩

set_option maxHeartbeats 400000 in
theorem getLong_neg {w : World} {b off len cap : Nat} {zs : List Int} (h : BRow w b off len cap zs) (hl : 4 ≤ len) (hn : int4 zs < 0) :
    Calls Try.prog 39 #[.slice (some ⟨b, off, none⟩) len cap] w fun e w' => e = .returned (.tuple #[.string ByteArray.empty, .slice none 0 0, .int .i64 11]) ∧ Below w.heap.size w w' := by
  have H : Hid _ := h
  clear h
  go_enter Try.func39, Try.ntmps39
  go_wp2_with fail
  refine (getInt_yes H.out hl).mono ?_
  rintro e w1 ⟨off', rfl, hR, hB⟩
  go_wp2_with fail
  go_ret3
  exact ⟨rfl, hB⟩

set_option maxHeartbeats 400000 in
theorem getLong_short {w : World} {b off len cap : Nat} {zs : List Int} (h : BRow w b off len cap zs) (hl : 4 ≤ len) (hn : ((len - 4 : Nat) : Int) < int4 zs) :
    Calls Try.prog 39 #[.slice (some ⟨b, off, none⟩) len cap] w fun e w' => e = .returned (.tuple #[.string ByteArray.empty, .slice none 0 0, .int .i64 10]) ∧ Below w.heap.size w w' := by
  have H : Hid _ := h
  have hlm : len ≤ maxLen := Nat.le_trans h.le h.cap_le
  have HN : Hid _ := hn
  have HLM : Hid (len - 4 ≤ maxLen) := (by omega : len - 4 ≤ maxLen)
  have hcn := conv_nil
  have h0 : 0 ≤ int4 zs := by omega
  have hbd := (int4_bounds zs).2
  clear h hn hlm
  go_enter Try.func39, Try.ntmps39
  go_wp2_with fail
  refine (getInt_yes H.out hl).mono ?_
  rintro e w1 ⟨off', rfl, hR, hB⟩
  have HR : Hid _ := hR
  clear hR
  go_wp2_with fail
  refine (btake_short _ _ _ _ _ HLM.out HN.out).mono ?_
  rintro e w2 ⟨rfl, rfl⟩
  go_wp2_with fail
  go_ret3
  exact ⟨rfl, hB⟩

set_option maxHeartbeats 400000 in
theorem getLong_yes {w : World} {b off len cap : Nat} {zs : List Int} (h : BRow w b off len cap zs) (hsm : len ≤ 140737488351232) (n : Nat) (hl : 4 + n ≤ len) (hn : int4 zs = n) :
    Calls Try.prog 39 #[.slice (some ⟨b, off, none⟩) len cap] w fun e w' => ∃ off', e = .returned (.tuple #[.string (strOfNums ((zs.drop 4).take n)), .slice (some ⟨b, off', none⟩) (len - 4 - n) (cap - 4 - n), .int .i64 0]) ∧
      BRow w' b off' (len - 4 - n) (cap - 4 - n) (zs.drop (4 + n)) ∧ Below w.heap.size w w' := by
  have H : Hid _ := h
  have HN : Hid _ := hn
  have h0 : 0 ≤ int4 zs := by omega
  have hbd := (int4_bounds zs).2
  clear h hn
  go_enter Try.func39, Try.ntmps39
  go_wp2_with fail
  refine (getInt_yes H.out (by omega)).mono ?_
  rintro e w1 ⟨off', rfl, hR, hB⟩
  have HR : Hid _ := hR
  clear hR
  go_wp2_with fail
  refine (btake HR.out n (by omega) (by omega) _ HN.out).mono ?_
  rintro e w2 ⟨off2, rfl, hX, hR2, hB2, _⟩
  have hcv := hX.conv
  rw [List.drop_drop] at hR2
  have HR2 : Hid _ := hR2
  obtain ⟨T, hT⟩ : ∃ T, T = strOfNums ((zs.drop 4).take n) := ⟨_, rfl⟩
  rw [← hT] at hcv
  have HT : Hid _ := hT
  clear hX hR2 hT
  go_wp2_with fail
  go_ret3
  exact ⟨off2, by rw [← HT.out]; rfl, HR2.out, hB.trans (hB2.mono hB.size)⟩

set_option maxHeartbeats 400000 in
theorem long_yes (s : ByteArray) (w : World) (hs : s.size ≤ 140737488351232) :
    Calls Try.prog 58 #[.string s] w fun e w' => ∃ v, e = .returned v ∧ OwnB w' w.heap.size v (4 + s.size) (putL s.size 4 ++ sNums s) ∧ Below w.heap.size w w' := by
  obtain ⟨i0, hi, hz0, hz1, hz2⟩ := info_parts Try.info5
  have HI : Hid (Try.prog.info? 5 = some i0 ∧ i0.zero = some (.int .u8 0) ∧ i0.size = 1 ∧ i0.bytes = 1) := ⟨hi, hz0, hz1, hz2⟩
  have HW : Hid (IntKind.u64.wrap (s.size : Int) = s.size) := (by rw [IntKind.wrap_u64]; omega : IntKind.u64.wrap (s.size : Int) = s.size)
  clear hi hz0 hz1 hz2
  go_enter Try.func58, Try.ntmps58
  go_wp2_with fail
  refine (putInt_any s.size _).mono ?_
  rintro e w1 ⟨v, rfl, ho, hB⟩
  rw [HW.out] at ho
  have HO : Hid _ := ho
  clear ho
  go_wp2_with (at_builtin; refine Lib.wpList_append_own_string _ rfl (.tmp 5) (.tmp 6) 23 9 rfl w.heap.size 5 i0 Try.underlying23 Try.underlying9 HI.out.1 HI.out.2.1 HI.out.2.2.1 HI.out.2.2.2 _ _ _ rfl HO.out s rfl ?c1 ?c2 ?c3 ?_)
  case c1 => unfold maxLen; omega
  case c2 => omega
  case c3 => exact hB.size
  intro v2 w2 ho2 hg _
  have HO2 : Hid _ := OwnB.join ho2 (sNums_cells s)
  have hB2 : Below w.heap.size w w2 := hB.grown hg hB.size (OwnB.block HO.out)
  clear ho2 hg
  go_wp2_with fail
  go_ret
  exact ⟨v2, rfl, HO2.out, hB2⟩

theorem getLong_any {w : World} {a : Option Addr} {len cap : Nat} {zs : List Int} (h : IsB w a len cap zs) (hsm : len ≤ 140737488351232) :
    Calls Try.prog 39 #[.slice a len cap] w fun e w' => ∃ r lr cr, e = .returned (.tuple #[.string (strOfNums (longA zs).bytes), .slice r lr cr, .int .i64 (longA zs).err]) ∧ Hid (Behind w' a r lr cr zs (longA zs).done (longA zs).err) ∧ Below w.heap.size w w' := by
  obtain ⟨h1, h2, h3, h4, h5⟩ := h
  subst h1
  by_cases hl : zs.length < 4
  · simp only [longA, if_pos hl]
    refine (getLong_short0 a _ cap w hl).mono ?_
    rintro e w' ⟨rfl, hB⟩
    exact ⟨none, 0, 0, by rw [str_nil], .inl ⟨by decide, rfl⟩, hB⟩
  · obtain ⟨b, off, rfl, hR⟩ := h5 (by omega)
    have hb := hR.lt (by omega)
    simp only [longA, if_neg hl]
    by_cases hg : int4 zs < 0
    · simp only [if_pos hg]
      refine (getLong_neg hR (by omega) hg).mono ?_
      rintro e w' ⟨rfl, hB⟩
      exact ⟨none, 0, 0, by rw [str_nil], .inl ⟨by decide, rfl⟩, hB⟩
    · simp only [if_neg hg]
      by_cases hn : ((zs.length - 4 : Nat) : Int) < int4 zs
      · simp only [if_pos hn]
        refine (getLong_short hR (by omega) hn).mono ?_
        rintro e w' ⟨rfl, hB⟩
        exact ⟨none, 0, 0, by rw [str_nil], .inl ⟨by decide, rfl⟩, hB⟩
      · simp only [if_neg hn]
        obtain ⟨n, hn2⟩ := Int.eq_ofNat_of_zero_le (show 0 ≤ int4 zs by omega)
        rw [hn2, Int.toNat_natCast]
        refine (getLong_yes hR hsm n (by omega) hn2).mono ?_
        rintro e w' ⟨off', rfl, hR', hB⟩
        exact ⟨_, _, _, rfl, .inr ⟨rfl, by omega, by omega, b, off, off', rfl, rfl, Nat.lt_of_lt_of_le hb hB.size, hR'⟩, hB⟩

theorem long_told_neg (N : Int) (Z : List Int) (h0 : 0 ≤ N) (h1 : N < 4294967296) (h : sig N < 0) : longA (putL N 4 ++ Z) = ⟨0, [], 0, 11⟩ := by
  unfold longA
  rw [told_len, told_int4 N Z h0 h1, if_neg (by omega), if_pos h]

theorem long_told_no (N : Int) (Z : List Int) (h0 : 0 ≤ N) (h1 : N < 4294967296) (h : (Z.length : Int) < sig N) : longA (putL N 4 ++ Z) = ⟨0, [], 0, 10⟩ := by
  unfold longA
  rw [told_len, told_int4 N Z h0 h1, if_neg (by omega), if_neg (by omega), if_pos (by omega)]

theorem long_told_yes (N : Int) (Z : List Int) (K : Nat) (h0 : 0 ≤ N) (h1 : N < 4294967296) (hK : sig N = K) (h : K ≤ Z.length) : longA (putL N 4 ++ Z) = ⟨0, Z.take K, 4 + K, 0⟩ := by
  unfold longA
  rw [told_len, told_int4 N Z h0 h1, hK, if_neg (by omega), if_neg (by omega), if_neg (by omega), told_front, Int.toNat_natCast]
end Go.Proofs.Ytcecdklgiocbaaa
