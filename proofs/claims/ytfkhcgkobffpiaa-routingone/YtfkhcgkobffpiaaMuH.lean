/-
  Murmur: the contracts of Hash and Token, the program and the document (carried over).
-/
import Derived.Test.YtfkhcgkobffpiaaMuOver
import Derived.Deep.DeepCutAuto
namespace Go.Proofs.Ytfkhcgkobffpiaa
namespace Mur
open Go.RowKit
set_option linter.unusedVariables false

/-- What stands ahead of each round over the blocks. -/
def RRel (f : Nat → Int) (len : Nat) (w : World) (h g a : Value) (wr : World) : Prop :=
  ∃ j A : Nat, A = 16 * j ∧ A ≤ len ∧ h = .int .u64 (st f j).1 ∧ g = .int .u64 (st f j).2 ∧ a = .int .i64 A ∧ wr = w
/-- .. over the bytes of a block. -/
def RRel2 (F G : Nat → Int) (w : World) (k m i : Value) (wr : World) : Prop :=
  ∃ (s : Nat) (x : Int), s ≤ 8 ∧ x = (s : Int) - 1 ∧ i = .int .i64 x ∧ k = .int .u64 (horn F (8 - s)) ∧ m = .int .u64 (horn G (8 - s)) ∧ wr = w
/-- .. over the bytes that are left. -/
def RRel3 (F : Nat → Int) (L : Nat) (w : World) (k m i : Value) (wr : World) : Prop :=
  ∃ t : Nat, t ≤ L ∧ i = .int .i64 t ∧ k = .int .u64 (layK F t) ∧ m = .int .u64 (layM F t) ∧ wr = w

theorem horn_more (F : Nat → Int) (hr : ∀ i, 0 ≤ F i ∧ F i ≤ 255) (r : Nat) (h : r < 8) : IntKind.u64.wrap (IntKind.u64.wrap (horn F (7 - r) * 256) + F r) = horn F (8 - r) := by
  rw [show 7 - r = 8 - (r + 1) by omega]
  have e : 8 - r = (8 - (r + 1)) + 1 := by omega
  have h1 := horn_lt F hr (8 - (r + 1)) (by omega)
  have h2 := horn_lt F hr (8 - r) (by omega)
  have e2 : 7 - (8 - (r + 1)) = r := by omega
  have hs : horn F (8 - r) = horn F (8 - (r + 1)) * 256 + F r := by rw [e]; simp only [horn, e2]
  have hF := hr r
  rw [hs] at h2 ⊢
  rw [IntKind.wrap_u64, IntKind.wrap_u64]
  omega

set_option maxRecDepth 20000 in
set_option maxHeartbeats 2000000 in
theorem rhash_at (b off len cap : Nat) (f : Nat → Int) (w : World) (hs : len ≤ 100000) (hlc : len ≤ cap) (hm : cap ≤ maxLen) (hcell : ∀ i, i < len → w.cell? ⟨b, off + i, none⟩ = some (.int .u8 (f i))) (hr : ∀ i, 0 ≤ f i ∧ f i ≤ 255) :
    Calls Try.prog 29 #[.slice (some ⟨b, off, none⟩) len cap] w fun e w' => e = .returned (.tuple #[.int .u64 (sumH f len), .int .u64 (sumG f len)]) ∧ w' = w := by
  have HM : Hid (cap ≤ maxLen) := hm
  have HC : Hid (∀ i, i < len → w.cell? ⟨b, off + i, none⟩ = some (.int .u8 (f i))) := hcell
  have HR : Hid (∀ i, 0 ≤ f i ∧ f i ≤ 255) := hr
  unfold maxLen at hm
  clear hr hcell
  go_enter Try.func29, Try.ntmps29
  go_wp2
  go_loopw [4, 5, 6] (fun h g a wr => RRel f len w h g a wr) (fun _ _ a _ => len - (intOf a).toNat)
  case atStart => exact ⟨0, 0, rfl, by omega, rfl, rfl, rfl, rfl⟩
  case round =>
    obtain ⟨j, A, hA, hAl, rfl, rfl, rfl, hwr⟩ := hrel
    subst hwr
    by_cases hlt : A + 16 ≤ len
    · have HS : Hid (st f (j + 1) = stp (st f j) (horn (fun i => f (A + i)) 8) (horn (fun i => f (A + 8 + i)) 8)) := by
        rw [horn_low, horn_low, hA]; exact rfl
      have HA : Hid (A = 16 * j) := hA
      obtain ⟨F, hF⟩ : ∃ F : Nat → Int, F = fun i => f (A + i) := ⟨_, rfl⟩
      obtain ⟨G, hG⟩ : ∃ G : Nat → Int, G = fun i => f (A + 8 + i) := ⟨_, rfl⟩
      rw [← hF, ← hG] at HS
      have HF : Hid (∀ r, r < 8 → wr.cell? ⟨b, off + (A + r), none⟩ = some (.int .u8 (F r))) := fun r hr => by rw [hF]; exact HC.out (A + r) (by omega)
      have HG : Hid (∀ r, r < 8 → wr.cell? ⟨b, off + (A + 8 + r), none⟩ = some (.int .u8 (G r))) := fun r hr => by rw [hG]; exact HC.out (A + 8 + r) (by omega)
      have HFr : Hid (∀ i, 0 ≤ F i ∧ F i ≤ 255) := fun i => by rw [hF]; exact HR.out _
      have HGr : Hid (∀ i, 0 ≤ G i ∧ G i ≤ 255) := fun i => by rw [hG]; exact HR.out _
      have h16 : (A : Int) + 16 ≤ len := by omega
      clear hF hG hA
      go_wp2
      go_loopw [7, 8, 9] (fun k m i wz => RRel2 F G wr k m i wz) (fun _ _ i _ => (intOf i + 1).toNat)
      case atStart => exact ⟨8, 7, by omega, by omega, rfl, rfl, rfl, rfl⟩
      case round =>
        obtain ⟨s, x, hs, hx, rfl, rfl, rfl, hwz⟩ := hrel
        subst hwz
        by_cases hs0 : 0 < s
        · obtain ⟨r, rfl⟩ : ∃ r, s = r + 1 := ⟨s - 1, by omega⟩
          obtain rfl : x = (r : Int) := by omega
          have hcF := HF.out r (by omega)
          have hcG := HG.out r (by omega)
          have hwF : IntKind.u64.wrap (F r) = F r := by rw [IntKind.wrap_u64]; have := HFr.out r; omega
          have hwG : IntKind.u64.wrap (G r) = G r := by rw [IntKind.wrap_u64]; have := HGr.out r; omega
          have HE1 : Hid _ := horn_more F HFr.out r (by omega)
          have HE2 : Hid _ := horn_more G HGr.out r (by omega)
          have hb1 : A + r < len := by omega
          have hb2 : A + 8 + r < len := by omega
          clear hx
          go_wp2
          go_roundw
          case rel => exact ⟨r, (r : Int) - 1, by omega, rfl, rfl, by rw [← HE1.out], by rw [← HE2.out], rfl⟩
          case measure => simp [intOf] <;> omega
        · obtain rfl : s = 0 := by omega
          obtain rfl : x = -1 := by omega
          simp only [Nat.sub_zero]
          obtain ⟨k, hk⟩ : ∃ k, k = horn F 8 := ⟨_, rfl⟩
          obtain ⟨m, hmm⟩ : ∃ m, m = horn G 8 := ⟨_, rfl⟩
          rw [← hk, ← hmm] at HS
          rw [← hk, ← hmm]
          clear hk hmm hx hs
          go_wp2_with (first | (go_at_call 37; refine (rfst1_any _ _).mono ?_; rintro e w' ⟨rfl, rfl⟩) | (go_at_call 38; refine (rsnd1_any _ _).mono ?_; rintro e w' ⟨rfl, rfl⟩) | (go_at_call 36; refine (left_any _ _ _ (by decide)).mono ?_; rintro e w' ⟨rfl, rfl⟩))
          go_roundw
          case rel => exact ⟨j + 1, A + 16, by have := HA.out; omega, by omega, by rw [HS.out]; rfl, by rw [HS.out]; rfl, by go_num, rfl⟩
          case measure => simp [intOf] <;> omega
    · obtain ⟨L, hL⟩ : ∃ L, len = A + L := ⟨len - A, by omega⟩
      have hl : len / 16 = j := by omega
      have hl2 : len % 16 = L := by omega
      have HH : Hid (endH f len = bits .xor .u64 (st f j).1 (fst1 (layK (fun i => f (A + i)) L))) := by show _ = _; unfold endH; rw [hl, hl2, hA]
      have HG : Hid (endG f len = bits .xor .u64 (st f j).2 (snd1 (layM (fun i => f (A + i)) L))) := by show _ = _; unfold endG; rw [hl, hl2, hA]
      have HS := st_range f j
      obtain ⟨F, hF⟩ : ∃ F : Nat → Int, F = fun i => f (A + i) := ⟨_, rfl⟩
      rw [← hF] at HH HG
      have HF : Hid (∀ r, r < L → wr.cell? ⟨b, off + (A + r), none⟩ = some (.int .u8 (F r))) := fun r hr => by rw [hF]; exact HC.out (A + r) (by omega)
      have HFr : Hid (∀ i, 0 ≤ F i ∧ F i ≤ 255) := fun i => by rw [hF]; exact HR.out _
      obtain ⟨hj, hjj⟩ : ∃ x, x = (st f j).1 := ⟨_, rfl⟩
      obtain ⟨gj, hgj⟩ : ∃ x, x = (st f j).2 := ⟨_, rfl⟩
      rw [← hjj] at HH HS ⊢
      rw [← hgj] at HG HS ⊢
      have HL : Hid (L < 16 ∧ len = A + L) := ⟨by omega, hL⟩
      have hsub : (len : Int) - A = L := by omega
      have h16 : decide ((A : Int) + 16 ≤ len) = false := by simp; omega
      have hw : IntKind.u64.wrap (len : Int) = len := by rw [IntKind.wrap_u64]; omega
      clear hF hA hl hl2 hjj hgj hL
      go_wp2
      go_loopw [10, 11, 13] (fun k m i wz => RRel3 F L wr k m i wz) (fun _ _ i _ => L - (intOf i).toNat)
      case atStart => exact ⟨0, by omega, rfl, rfl, rfl, rfl⟩
      case round =>
        obtain ⟨t, ht, rfl, rfl, rfl, hwz⟩ := hrel
        subst hwz
        by_cases hlt2 : t < L
        · have hcF := HF.out t hlt2
          have hz := HFr.out t
          have hb1 : A + t < len := by have := HL.out; omega
          obtain ⟨z, hzz⟩ : ∃ z, z = F t := ⟨_, rfl⟩
          rw [← hzz] at hz hcF
          have hwF : IntKind.u64.wrap z = z := by rw [IntKind.wrap_u64]; omega
          have HZ : Hid (z = F t) := hzz
          clear hzz
          go_upto_if 85 with fail
          go_cut [14] (fun x wc => x = .int .u64 (lay z 0) ∧ wr = wc)
          case first =>
            by_cases hz8 : z < 128
            · have h128 : decide ((128 : Int) ≤ z) = false := by simp; omega
              have HE : Hid _ := sgd_low z hz.1 hz8
              go_wp2_with fail
              go_meet
              case rel => exact ⟨by rw [← HE.out], rfl⟩
            · have h128 : (128 : Int) ≤ z := by omega
              have HE : Hid _ := sgd_high z h128 hz.2
              go_wp2_with fail
              go_meet
              case rel => exact ⟨by rw [← HE.out], rfl⟩
          case rest =>
            obtain ⟨rfl, hwc⟩ := hcut
            subst hwc
            have hmod : ((t : Int) % 8) = ((t % 8 : Nat) : Int) := by omega
            obtain ⟨e, he⟩ : ∃ e, e = t % 8 := ⟨_, rfl⟩
            rw [← he] at hmod
            have HE : Hid (e = t % 8) := he
            clear he
            go_wp2
            go_loopw [14, 15] (fun x i wc => ∃ r : Nat, r ≤ e ∧ x = .int .u64 (lay z r) ∧ i = .int .i64 r ∧ wc = wr) (fun _ i _ => e - (intOf i).toNat)
            case atStart => exact ⟨0, by omega, rfl, rfl, rfl⟩
            case round =>
              obtain ⟨r, hre, rfl, rfl, hwc⟩ := hrel
              subst hwc
              by_cases hlt3 : r < e
              · have HE2 : Hid _ := lay_succ z r
                go_wp2
                go_roundw
                case rel => exact ⟨r + 1, by omega, by rw [HE2.out], by go_num, by first | rfl | trivial⟩
                case measure => simp [intOf] <;> omega
              · obtain rfl : r = e := by omega
                clear hlt3 hre
                by_cases ht8 : t < 8
                · have HK : Hid (layK F (t + 1) = bits .xor .u64 (layK F t) (lay z r)) := by show _ = _; simp only [layK]; rw [if_pos ht8, HZ.out, HE.out]
                  have HN : Hid (layM F (t + 1) = layM F t) := by show _ = _; simp only [layM]; rw [if_pos ht8]
                  go_wp2
                  go_roundw
                  case rel => exact ⟨t + 1, by omega, by go_num, by rw [HK.out], by rw [HN.out], rfl⟩
                  case measure => simp [intOf] <;> omega
                · have h8 : decide ((t : Int) < 8) = false := by simp; omega
                  have HK : Hid (layK F (t + 1) = layK F t) := by show _ = _; simp only [layK]; rw [if_neg ht8]
                  have HN : Hid (layM F (t + 1) = bits .xor .u64 (layM F t) (lay z r)) := by show _ = _; simp only [layM]; rw [if_neg ht8, HZ.out, HE.out]
                  go_wp2
                  go_roundw
                  case rel => exact ⟨t + 1, by omega, by go_num, by rw [HK.out], by rw [HN.out], rfl⟩
                  case measure => simp [intOf] <;> omega
        · obtain rfl : t = L := by omega
          clear hlt2 ht
          obtain ⟨k, hk⟩ : ∃ k, k = layK F t := ⟨_, rfl⟩
          obtain ⟨m, hmm⟩ : ∃ m, m = layM F t := ⟨_, rfl⟩
          have HK : Hid (k = layK F t) := hk
          have HN : Hid (m = layM F t) := hmm
          rw [← hk, ← hmm]
          clear hk hmm
          have HS' : Hid ((0 ≤ hj ∧ hj < 18446744073709551616) ∧ 0 ≤ gj ∧ gj < 18446744073709551616) := HS
          clear HS
          go_upto_if 105 with fail
          go_cut [5] (fun g wc => g = .int .u64 (endG f len) ∧ wr = wc)
          case first =>
            by_cases h8 : 8 < t
            · have h8' : decide ((8 : Int) < t) = true := by simp; omega
              go_wp2_with (go_at_call 38; refine (rsnd1_any _ _).mono ?_; rintro e w' ⟨rfl, rfl⟩)
              go_meet
              case rel => exact ⟨by rw [HG.out, HN.out], rfl⟩
            · have h8' : decide ((8 : Int) < t) = false := by simp; omega
              have HX : Hid (endG f len = gj) := by show _ = _; rw [HG.out, layM_none F t (by omega), snd1_zero, xor_zero gj HS'.out.2.1 HS'.out.2.2]
              go_wp2_with fail
              go_meet
              case rel => exact ⟨by rw [HX.out], rfl⟩
          case rest =>
            obtain ⟨rfl, hwc⟩ := hcut
            subst hwc
            go_upto_if 111 with fail
            go_cut [4] (fun h wc => h = .int .u64 (endH f len) ∧ wr = wc)
            case first =>
              by_cases h0 : 0 < t
              · have h0' : decide ((0 : Int) < t) = true := by simp; omega
                go_wp2_with (go_at_call 37; refine (rfst1_any _ _).mono ?_; rintro e w' ⟨rfl, rfl⟩)
                go_meet
                case rel => exact ⟨by rw [HH.out, HK.out], rfl⟩
              · have h0' : decide ((0 : Int) < t) = false := by simp; omega
                have HX : Hid (endH f len = hj) := by
                  show _ = _
                  obtain rfl : t = 0 := by omega
                  rw [HH.out, show layK F 0 = 0 from rfl, fst1_zero, xor_zero hj HS'.out.1.1 HS'.out.1.2]
                go_wp2_with fail
                go_meet
                case rel => exact ⟨by rw [HX.out], rfl⟩
            case rest =>
              obtain ⟨rfl, hwc⟩ := hcut
              subst hwc
              have H1 : Hid (sumH f len = fin1 (endH f len) (endG f len) len) := rfl
              have H2 : Hid (sumG f len = fin2 (endH f len) (endG f len) len) := rfl
              obtain ⟨x, hx⟩ : ∃ x, x = endH f len := ⟨_, rfl⟩
              obtain ⟨y, hy⟩ : ∃ y, y = endG f len := ⟨_, rfl⟩
              rw [← hx, ← hy] at H1 H2
              rw [← hx, ← hy]
              clear hx hy
              go_wp2_with (go_at_call 39; refine (rmix_any _ _).mono ?_; rintro e w' ⟨rfl, rfl⟩)
              go_ret2
              refine ⟨?_, rfl⟩
              rw [H1.out, H2.out]
              rfl

/-- Bytes wherever they lie, none among them: what a slice of them is. -/
def ByR (w : World) (a : Option Addr) (len cap : Nat) (f : Nat → Int) : Prop :=
  (∀ i, 0 ≤ f i ∧ f i ≤ 255) ∧ ((len = 0 ∧ cap = 0) ∨ ∃ b off, a = some ⟨b, off, none⟩ ∧ len ≤ cap ∧ cap ≤ maxLen ∧ ∀ i, i < len → w.cell? ⟨b, off + i, none⟩ = some (.int .u8 (f i)))

theorem sum_zero (f : Nat → Int) : sumH f 0 = fin1 0 0 0 ∧ sumG f 0 = fin2 0 0 0 := by
  have e1 : sumH f 0 = sumH (fun _ => 0) 0 := rfl
  have e2 : sumG f 0 = sumG (fun _ => 0) 0 := rfl
  rw [e1, e2]
  decide +kernel

set_option maxHeartbeats 400000 in
theorem rhash_nil (a : Option Addr) (f : Nat → Int) (w : World) : Calls Try.prog 29 #[.slice a 0 0] w fun e w' => e = .returned (.tuple #[.int .u64 (sumH f 0), .int .u64 (sumG f 0)]) ∧ w' = w := by
  have h0 : bits .xor .u64 0 0 = 0 := by decide
  have HS : Hid (sumH f 0 = fin1 0 0 0) := (sum_zero f).1
  have HG : Hid (sumG f 0 = fin2 0 0 0) := (sum_zero f).2
  have H1 : Hid (bits .xor .u64 0 0 = 0) := h0
  go_enter Try.func29, Try.ntmps29
  go_wp2
  go_loopw [4, 5, 6] (fun h g x wr => h = .int .u64 0 ∧ g = .int .u64 0 ∧ x = .int .i64 0 ∧ wr = w) (fun _ _ _ _ => 0)
  case atStart => exact ⟨rfl, rfl, rfl, rfl⟩
  case round =>
    obtain ⟨rfl, rfl, rfl, rfl⟩ := hrel
    go_wp2
    go_loopw [10, 11, 13] (fun k m i wz => k = .int .u64 0 ∧ m = .int .u64 0 ∧ i = .int .i64 0 ∧ wz = wr) (fun _ _ _ _ => 0)
    case atStart => exact ⟨rfl, rfl, rfl, rfl⟩
    case round =>
      obtain ⟨rfl, rfl, rfl, rfl⟩ := hrel
      go_wp2_with (go_at_call 39; refine (rmix_any _ _).mono ?_; rintro e w' ⟨rfl, rfl⟩)
      go_ret2
      refine ⟨?_, rfl⟩
      rw [HS.out, HG.out]
      unfold fin1 fin2
      rfl

theorem rhash_any (a : Option Addr) (len cap : Nat) (f : Nat → Int) (w : World) (hs : len ≤ 100000) (h : ByR w a len cap f) :
    Calls Try.prog 29 #[.slice a len cap] w fun e w' => e = .returned (.tuple #[.int .u64 (sumH f len), .int .u64 (sumG f len)]) ∧ w' = w := by
  obtain ⟨hr, ⟨rfl, rfl⟩ | ⟨b, off, rfl, hlc, hm, hcell⟩⟩ := h
  · exact rhash_nil a f w
  · exact rhash_at b off len cap f w hs hlc hm hcell hr

set_option maxHeartbeats 400000 in
theorem rtoken_any (a : Option Addr) (len cap : Nat) (f : Nat → Int) (w : World) (hs : len ≤ 100000) (h : ByR w a len cap f) :
    Calls Try.prog 22 #[.slice a len cap] w fun e w' => e = .returned (.int .i64 (tok (sumH f len))) ∧ w' = w := by
  obtain ⟨x, hxx⟩ : ∃ x, x = sumH f len := ⟨_, rfl⟩
  have HC : Hid _ := rhash_any a len cap f w hs h
  rw [← hxx] at HC ⊢
  clear hxx
  by_cases hx : x = 9223372036854775808
  · subst hx
    have HT : Hid (tok 9223372036854775808 = 9223372036854775807) := rfl
    go_enter Try.func22, Try.ntmps22
    go_wp2_with fail
    refine Calls.mono HC.out ?_
    rintro e w1 ⟨rfl, rfl⟩
    go_wp2
    go_ret
    exact ⟨by rw [HT.out]; rfl, rfl⟩
  · have hn : (x == 9223372036854775808) = false := by simpa using hx
    have HT : Hid (tok x = wrap64 x) := if_neg hx
    go_enter Try.func22, Try.ntmps22
    go_wp2_with fail
    refine Calls.mono HC.out ?_
    rintro e w1 ⟨rfl, rfl⟩
    go_wp2
    go_ret
    exact ⟨by rw [HT.out]; rfl, rfl⟩
end Mur
end Go.Proofs.Ytfkhcgkobffpiaa

namespace Go.Proofs.Ytfkhcgkobffpiaa
namespace Mur
open Go.RowKit
set_option linter.unusedVariables false

/-- What stands ahead of each round of Hash. -/
def HRel (f : Nat → Int) (b off len cap : Nat) (w : World) (h g l : Value) (wr : World) : Prop :=
  ∃ j L C off' q : Nat, len = 16 * j + L ∧ cap = 16 * j + C ∧ (0 < L → off' = off + 16 * j) ∧ h = .int .u64 (st f j).1 ∧ g = .int .u64 (st f j).2 ∧ l = .slice (some ⟨b, off', none⟩) L C ∧ wr = w.drewN q

set_option maxHeartbeats 1000000 in
theorem hash_at (b off len cap : Nat) (f : Nat → Int) (w : World) (hlc : len ≤ cap) (hm : cap ≤ maxLen) (hcell : ∀ i, i < len → w.cell? ⟨b, off + i, none⟩ = some (.int .u8 (f i))) (hr : ∀ i, 0 ≤ f i ∧ f i ≤ 255) :
    Calls Try.prog 28 #[.slice (some ⟨b, off, none⟩) len cap] w fun e w' => ∃ q, e = .returned (.tuple #[.int .u64 (sumH f len), .int .u64 (sumG f len)]) ∧ w' = w.drewN q := by
  have HM : Hid (cap ≤ maxLen) := hm
  have HC : Hid (∀ i, i < len → w.cell? ⟨b, off + i, none⟩ = some (.int .u8 (f i))) := hcell
  have HR : Hid (∀ i, 0 ≤ f i ∧ f i ≤ 255) := hr
  unfold maxLen at hm
  clear hr hcell
  go_enter Try.func28, Try.ntmps28
  go_wp2
  go_loopw [4, 5, 6] (fun h g l wr => HRel f b off len cap w h g l wr) (fun _ _ l _ => match l with | .slice _ L _ => L | _ => 0)
  case atStart => exact ⟨0, len, cap, off, 0, by omega, by omega, fun _ => by omega, rfl, rfl, rfl, rfl⟩
  case round =>
    obtain ⟨j, L, C, off', q, hL, hC, ho, rfl, rfl, rfl, hW⟩ := hrel
    have HW : Hid (wr = w.drewN q) := hW
    have HL : Hid (len = 16 * j + L ∧ cap = 16 * j + C) := ⟨hL, hC⟩
    have hLC : L ≤ C := by omega
    clear hW
    have HCr : Hid (∀ q' i, i < len → (wr.drewN q').cell? ⟨b, off + i, none⟩ = some (.int .u8 (f i))) := fun q' i hi => by rw [HW.out]; simpa using HC.out i hi
    by_cases hlt : 16 ≤ L
    · have HO : Hid (off' = off + 16 * j) := ho (by omega)
      have HN1 : Hid (∀ q', Calls Try.prog 30 #[.slice (some ⟨b, off', none⟩) 8 C] (wr.drewN q') fun e w' => e = .returned (.int .u64 (low (fun i => f (16 * j + i)) 8)) ∧ w' = wr.drewN q') := fun q' =>
        number_at b off' C (fun i => f (16 * j + i)) (wr.drewN q') (by have := HM.out; omega) (by omega) (fun i hi => by have := HCr.out q' (16 * j + i) (by omega); rw [← Nat.add_assoc] at this; rw [HO.out]; exact this) (fun i => HR.out _)
      have HN2 : Hid (∀ q', Calls Try.prog 30 #[.slice (some ⟨b, off' + 8, none⟩) 8 (C - 8)] (wr.drewN q') fun e w' => e = .returned (.int .u64 (low (fun i => f (16 * j + 8 + i)) 8)) ∧ w' = wr.drewN q') := fun q' =>
        number_at b (off' + 8) (C - 8) (fun i => f (16 * j + 8 + i)) (wr.drewN q') (by have := HM.out; omega) (by omega) (fun i hi => by have := HCr.out q' (16 * j + 8 + i) (by omega); rw [← Nat.add_assoc, ← Nat.add_assoc] at this; rw [HO.out]; exact this) (fun i => HR.out _)
      clear ho
      have hC8 : ¬ C = 8 := by omega
      have hC8' : (8 : Int) ≤ C := by omega
      have hC16 : (16 : Int) ≤ C := by omega
      have hL16 : (16 : Int) ≤ L := by omega
      have hS : Hid (st f (j + 1) = stp (st f j) (low (fun i => f (16 * j + i)) 8) (low (fun i => f (16 * j + 8 + i)) 8)) := rfl
      obtain ⟨k, hk⟩ : ∃ k, k = low (fun i => f (16 * j + i)) 8 := ⟨_, rfl⟩
      obtain ⟨m, hmm⟩ : ∃ m, m = low (fun i => f (16 * j + 8 + i)) 8 := ⟨_, rfl⟩
      rw [← hk] at HN1 hS
      rw [← hmm] at HN2 hS
      clear hk hmm hL hC
      go_wp2_with fail
      refine wp_region_quiet_lit (by kernel_rfl) (by kernel_rfl) ?_
      go_big_quiet_step (fail)
      go_big_quiet_step (fail)
      go_big_quiet_step ((go_at_call 30; exact Calls.quiet_of_same (HN1.out _)))
      go_big_quiet_step (fail)
      go_big_quiet_step (fail)
      go_big_quiet_step ((go_at_call 30; exact Calls.quiet_of_same (HN2.out _)))
      go_big_quiet_step (fail)
      go_big_quiet_step (fail)
      refine wpQuiet_nil ?_
      rintro w4 ⟨q4, rfl⟩
      go_wp2_with (first | (go_at_call 32; refine (fst1_any _ _).mono ?_; rintro e w' ⟨rfl, rfl⟩) | (go_at_call 33; refine (snd1_any _ _).mono ?_; rintro e w' ⟨rfl, rfl⟩) | (go_at_call 31; refine (rot_any _ _ _ (by decide)).mono ?_; rintro e w' ⟨rfl, rfl⟩))
      by_cases hc16 : C = 16
      · go_roundw
        case rel => exact ⟨j + 1, L - 16, C - 16, off', q + q4, by have := HL.out; omega, by have := HL.out; omega, fun h => by omega, by rw [hS.out]; rfl, by rw [hS.out]; rfl, by simp [hc16], by rw [HW.out, World.drewN_drewN]⟩
        case measure => show L - 16 < L; omega
      · go_roundw
        case rel => exact ⟨j + 1, L - 16, C - 16, off' + 16, q + q4, by have := HL.out; omega, by have := HL.out; omega, fun h => by have := HO.out; omega, by rw [hS.out]; rfl, by rw [hS.out]; rfl, by rw [if_neg hc16], by rw [HW.out, World.drewN_drewN]⟩
        case measure => show L - 16 < L; omega
    · have hl : len / 16 = j := by omega
      have hl2 : len % 16 = L := by omega
      have HH : Hid (endH f len = bits .xor .u64 (st f j).1 (fst1 (layK (fun i => f (16 * j + i)) L))) := by show _ = _; unfold endH; rw [hl, hl2]
      have HG : Hid (endG f len = bits .xor .u64 (st f j).2 (snd1 (layM (fun i => f (16 * j + i)) L))) := by show _ = _; unfold endG; rw [hl, hl2]
      have HOV : Hid _ := over_any b off' C L (fun i => f (16 * j + i)) wr (by omega) (by have := HM.out; omega) (by omega) (fun i hi => by have := HCr.out 0 (16 * j + i) (by omega); rw [← Nat.add_assoc] at this; rw [ho (by omega)]; simpa using this)
      obtain ⟨k, hk⟩ : ∃ k, k = layK (fun i => f (16 * j + i)) L := ⟨_, rfl⟩
      obtain ⟨m, hmm⟩ : ∃ m, m = layM (fun i => f (16 * j + i)) L := ⟨_, rfl⟩
      rw [← hk] at HOV HH
      rw [← hmm] at HOV HG
      have hL15 : decide ((16 : Int) ≤ L) = false := by simp; omega
      obtain ⟨hj, hjj⟩ : ∃ x, x = (st f j).1 := ⟨_, rfl⟩
      obtain ⟨gj, hgj⟩ : ∃ x, x = (st f j).2 := ⟨_, rfl⟩
      have hw : IntKind.u64.wrap (len : Int) = len := by rw [IntKind.wrap_u64]; omega
      rw [← hjj] at HH ⊢
      rw [← hgj] at HG ⊢
      clear hk hmm hjj hgj hl hl2 ho hL hC
      go_wp2_with fail
      refine Calls.mono HOV.out ?_
      rintro e w5 ⟨rfl, rfl⟩
      go_wp2_with (first | (go_at_call 32; refine (fst1_any _ _).mono ?_; rintro e w' ⟨rfl, rfl⟩) | (go_at_call 33; refine (snd1_any _ _).mono ?_; rintro e w' ⟨rfl, rfl⟩) | (go_at_call 35; refine (fin_any _ _ _ _).mono ?_; rintro e w' ⟨rfl, rfl⟩))
      go_ret2
      refine ⟨q, ?_, HW.out⟩
      unfold sumH sumG
      rw [HH.out, HG.out]
      rfl

set_option maxHeartbeats 400000 in
theorem hash_nil (a : Option Addr) (f : Nat → Int) (w : World) : Calls Try.prog 28 #[.slice a 0 0] w fun e w' => ∃ q, e = .returned (.tuple #[.int .u64 (sumH f 0), .int .u64 (sumG f 0)]) ∧ w' = w.drewN q := by
  have HS : Hid (sumH f 0 = fin1 (bits .xor .u64 0 (fst1 0)) (bits .xor .u64 0 (snd1 0)) 0) := rfl
  have HG : Hid (sumG f 0 = fin2 (bits .xor .u64 0 (fst1 0)) (bits .xor .u64 0 (snd1 0)) 0) := rfl
  go_enter Try.func28, Try.ntmps28
  go_wp2
  go_loopw [4, 5, 6] (fun h g l wr => h = .int .u64 0 ∧ g = .int .u64 0 ∧ l = .slice a 0 0 ∧ wr = w) (fun _ _ _ _ => 0)
  case atStart => exact ⟨rfl, rfl, rfl, rfl⟩
  case round =>
    obtain ⟨rfl, rfl, rfl, rfl⟩ := hrel
    go_wp2_with (first | (go_at_call 34; refine (over_nil _ _).mono ?_; rintro e w' ⟨rfl, rfl⟩) | (go_at_call 32; refine (fst1_any _ _).mono ?_; rintro e w' ⟨rfl, rfl⟩) | (go_at_call 33; refine (snd1_any _ _).mono ?_; rintro e w' ⟨rfl, rfl⟩) | (go_at_call 35; refine (fin_any _ _ _ _).mono ?_; rintro e w' ⟨rfl, rfl⟩))
    go_ret2
    refine ⟨0, ?_, rfl⟩
    rw [HS.out, HG.out]
    rfl

theorem hash_any (a : Option Addr) (len cap : Nat) (f : Nat → Int) (w : World) (h : ByR w a len cap f) :
    Calls Try.prog 28 #[.slice a len cap] w fun e w' => ∃ q, e = .returned (.tuple #[.int .u64 (sumH f len), .int .u64 (sumG f len)]) ∧ w' = w.drewN q := by
  obtain ⟨hr, ⟨rfl, rfl⟩ | ⟨b, off, rfl, hlc, hm, hcell⟩⟩ := h
  · exact hash_nil a f w
  · exact hash_at b off len cap f w hlc hm hcell hr

theorem ByR.drewN {w : World} {a : Option Addr} {len cap : Nat} {f : Nat → Int} (h : ByR w a len cap f) (q : Nat) : ByR (w.drewN q) a len cap f := by
  obtain ⟨hr, h | ⟨b, off, rfl, hlc, hm, hcell⟩⟩ := h
  · exact ⟨hr, .inl h⟩
  · exact ⟨hr, .inr ⟨b, off, rfl, hlc, hm, fun i hi => by simpa using hcell i hi⟩⟩

set_option maxHeartbeats 400000 in
theorem token_any (a : Option Addr) (len cap : Nat) (f : Nat → Int) (w : World) (h : ByR w a len cap f) :
    Calls Try.prog 21 #[.slice a len cap] w fun e w' => ∃ q, e = .returned (.int .i64 (tok (sumH f len))) ∧ w' = w.drewN q := by
  have hx := sumH_range f len
  obtain ⟨x, hxx⟩ : ∃ x, x = sumH f len := ⟨_, rfl⟩
  have HC : Hid _ := hash_any a len cap f w h
  rw [← hxx] at hx HC ⊢
  clear hxx
  by_cases hs : x = 9223372036854775808
  · subst hs
    have HT : Hid (tok 9223372036854775808 = 9223372036854775807) := rfl
    have hw : wrap64 9223372036854775808 = -9223372036854775808 := by rw [wrap64_eq]; decide
    go_enter Try.func21, Try.ntmps21
    go_wp2_with fail
    refine Calls.mono HC.out ?_
    rintro e w1 ⟨q, rfl, rfl⟩
    go_wp2
    go_ret
    exact ⟨q, by rw [HT.out]; rfl, rfl⟩
  · have hn : (wrap64 x == -9223372036854775808) = false := by
      simpa using fun e => hs ((tok_least hx.1 hx.2).1 e)
    have HT : Hid (tok x = wrap64 x) := if_neg hs
    go_enter Try.func21, Try.ntmps21
    go_wp2_with fail
    refine Calls.mono HC.out ?_
    rintro e w1 ⟨q, rfl, rfl⟩
    go_wp2
    go_ret
    exact ⟨q, by rw [HT.out]; rfl, rfl⟩
end Mur
end Go.Proofs.Ytfkhcgkobffpiaa
