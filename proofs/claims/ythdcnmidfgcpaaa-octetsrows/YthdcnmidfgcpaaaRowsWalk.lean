/-
  OctetsRows walked: it answers true, and turns nothing that was there.
-/
import Derived.Test.YthdcnmidfgcpaaaSigns
import Derived.Test.YthdcnmidfgcpaaaArg
import Derived.Test.YthdcnmidfgcpaaaFlat
namespace Go.Proofs.Ythdcnmidfgcpaaa
open Go.RowKit
set_option linter.unusedVariables false

set_option maxHeartbeats 1000000 in
theorem rows_long (a : Option Addr) (len cap : Nat) (n : Int) (w : World) (h : 100 < len) (hm : len ≤ maxLen) :
    Calls Try.prog 7 #[.slice a len cap, .int .i64 n] w fun e w' => e = .returned (.bool true) ∧ Below w.heap.size w w' := by
  unfold maxLen at hm
  go_enter Try.func7, Try.ntmps7
  go_wp2_with fail
  refine (awake_any _).mono ?_
  rintro e w1 ⟨rfl, hB1⟩
  go_wp2
  go_ret
  exact ⟨rfl, hB1⟩

theorem put_news (x : Int) (k : Nat) (w : World) : ∀ j u, ((putL x k).map (Value.int .u8))[j]? = some u → (w.alloc (.cells (putCells x k k) 5)).cell? ((⟨w.heap.size, 0, none⟩ : Addr).add j) = some u := by
  intro j u hj
  have hjk : j < k := by
    have := (List.getElem?_eq_some_iff.1 hj).1
    simpa [putL_length] using this
  have hplain : (⟨w.heap.size, 0, none⟩ : Addr).add j = ⟨w.heap.size, j, none⟩ := by unfold Addr.add; split <;> simp_all
  rw [hplain, World.cell?_alloc_at _ _ _ _ rfl, putCells_get x k j hjk, ← hj, List.getElem?_map, List.getD_eq_getElem?_getD, List.getElem?_eq_getElem (by rw [putL_length]; exact hjk)]
  rfl

theorem get_at (b off len cap : Nat) (m : Int) (n : Nat) (zs : List Int) (w : World) (hm' : m = n) (h1 : 1 ≤ n) (h2 : n ≤ 8) (hl : n ≤ len) (hc : len ≤ cap) (hm : cap ≤ maxLen)
    (hcell : ∀ i, i < len → w.cell? ⟨b, off + i, none⟩ = some (.int .u8 (zs.getD i 0))) (hz : len ≤ zs.length) (hr : ∀ j : Nat, 0 ≤ zs[j]?.getD 0 ∧ zs[j]?.getD 0 ≤ 255) :
    Calls Try.prog 13 #[.slice (some ⟨b, off, none⟩) len cap, .int .i64 m] w fun e w' => ∃ off' q, (n < len → off' = off + n) ∧
      e = .returned (.tuple #[.int .u64 (numTo zs n), .slice (some ⟨b, off', none⟩) (len - n) (cap - n), .int .i64 0]) ∧ w' = w.drewN q := by
  subst hm'; exact get_yes b off len cap n zs w h1 h2 hl hc hm hcell hz hr

theorem get_short_at (b : Option Addr) (len cap : Nat) (m : Int) (n : Nat) (w : World) (hm : m = n) (h1 : 1 ≤ n) (h2 : n ≤ 8) (hl : len < n) :
    Calls Try.prog 13 #[.slice b len cap, .int .i64 m] w fun e w' => e = .returned (.tuple #[.int .u64 0, .slice none 0 0, .int .i64 10]) ∧ w' = w := by
  subst hm; exact get_short b len cap n w h1 h2 hl

/-- What a slice that owns its row is. -/
theorem own_shape {w : World} {base : Nat} {v : Value} {n : Nat} {X : List Int} (h : w.ownsRow base 5 1 v n (X.map (Value.int .u8))) :
    ∃ a g cap, v = .slice a n cap ∧ (0 < n → a = some ⟨g, 0, none⟩ ∧ n ≤ cap ∧ cap ≤ maxLen ∧ ∀ t, t < n → w.cell? ⟨g, t, none⟩ = some (.int .u8 (X.getD t 0))) := by
  obtain ⟨hlen, h2⟩ := id h
  rcases h2 with ⟨rfl, rfl⟩ | ⟨g, cap, cur, rfl, hg, hh, hc, hm, hs, hx⟩
  · exact ⟨none, 0, 0, rfl, fun h => by omega⟩
  · refine ⟨_, g, cap, rfl, fun hp => ⟨rfl, hc, hm, fun t ht => ?_⟩⟩
    rw [h.cellAt t (by omega)]
    simp only [List.length_map, Nat.mul_one] at hlen
    simp [show t < X.length by omega]

set_option maxHeartbeats 2000000 in
theorem rows_walk0 (a : Option Addr) (N cap : Nat) (zs : List Int) (n : Int) (w : World) (hN : N ≤ 100) (hz : N ≤ zs.length) (b off : Nat) (hb : 0 < N → a = some ⟨b, off, none⟩ ∧ b < w.heap.size)
    (hcell : ∀ i, i < N → w.cell? ⟨b, off + i, none⟩ = some (.int .u64 (zs.getD i 0))) (hr : ∀ i, i < N → 0 ≤ zs.getD i 0) :
    Calls Try.prog 7 #[.slice a N cap, .int .i64 n] w fun e w' => e = .returned (.bool true) ∧ Below w.heap.size w w' := by
  obtain ⟨κ, hκ, hκ7⟩ : ∃ j : Nat, n % 8 = j ∧ j ≤ 7 := ⟨(n % 8).toNat, by omega, by omega⟩
  have hand := i64_and7 n
  rw [hκ] at hand
  clear hκ
  have hNd : decide ((100 : Int) < N) = false := by simp; omega
  obtain ⟨i0, hi, hz0, hz1, hz2⟩ := info_parts Try.info5
  have HI : Hid (Try.prog.info? 5 = some i0 ∧ i0.zero = some (.int .u8 0) ∧ i0.size = 1 ∧ i0.bytes = 1) := ⟨hi, hz0, hz1, hz2⟩
  clear hi hz0 hz1 hz2
  have HCell : Hid (∀ i, i < N → w.cell? ⟨b, off + i, none⟩ = some (.int .u64 (zs.getD i 0))) := hcell
  have HR : Hid (∀ i, i < N → 0 ≤ zs.getD i 0) := hr
  have HA : Hid (0 < N → a = some ⟨b, off, none⟩ ∧ b < w.heap.size) := hb
  clear hcell hr hb
  go_enter Try.func7, Try.ntmps7
  go_wp2_with fail
  refine (awake_any _).mono ?_
  rintro e w1 ⟨rfl, hB1⟩
  go_wp2_with fail
  go_loopw [7, 8] (fun v i wr => ∃ j : Nat, j ≤ N ∧ i = .int .i64 j ∧ Hid (wr.ownsRow w.heap.size 5 1 v (j * (κ + 1)) ((flat zs (κ + 1) j).map (Value.int .u8))) ∧ Below w.heap.size w wr) (fun _ i _ => N - (intOf i).toNat)
  case atStart => exact ⟨0, by omega, rfl, by rw [Nat.zero_mul]; exact World.ownsRow_nil _ _ _ _, hB1⟩
  case round =>
    obtain ⟨j, hj, rfl, hown, hBr⟩ := hrel
    by_cases hlt : j < N
    · obtain ⟨ha, hbb⟩ := HA.out (by omega)
      subst ha
      obtain ⟨z, hzz⟩ : ∃ z, z = zs.getD j 0 := ⟨_, rfl⟩
      have hck : wr.cell? ⟨b, off + j, none⟩ = some (.int .u64 z) := by rw [hzz]; exact (hBr.cell hbb).trans (HCell.out j hlt)
      have hz0 : 0 ≤ z := by rw [hzz]; exact HR.out j hlt
      have HZ : Hid (z = zs.getD j 0) := hzz
      have hjk : j * (κ + 1) ≤ 100 * 8 := Nat.mul_le_mul (by omega) (by omega)
      clear hzz
      go_wp2_with fail
      refine (put_at z _ (κ + 1) _ (by simp) (by omega) (by omega) hz0).mono ?_
      rintro e w3 ⟨rfl, rfl⟩
      have hbs := hBr.size
      have hnl : ((putL z (κ + 1)).map (Value.int .u8)).length = (κ + 1) * 1 := by simp [putL_length]
      have HNL : Hid _ := hnl
      have HN1 : Hid _ := bytes_one (putL z (κ + 1))
      have HNW : Hid _ := put_news z (κ + 1) wr
      have HOW : Hid _ := hown.out.alloc (.cells (putCells z (κ + 1) (κ + 1)) 5)
      clear hnl
      go_wp2_with (at_builtin; refine wpList_append_own _ rfl (.tmp 31) (.tmp 37) 23 rfl w.heap.size 5 i0 (.int .u8 0) 1 1 Try.underlying23 HI.out.1 HI.out.2.1 HI.out.2.2.1 HI.out.2.2.2 rfl (by decide) _ _ _ rfl HOW.out ⟨wr.heap.size, 0, none⟩ (κ + 1) (κ + 1) _ rfl HNL.out HNW.out HN1.out ?c1 ?c2 ?c3 ?_)
      case c1 => unfold maxLen; omega
      case c2 => omega
      case c3 => simp; omega
      intro v' w3 hown' hgr _
      have R1 : Hid (w3.ownsRow w.heap.size 5 1 v' ((j + 1) * (κ + 1)) ((flat zs (κ + 1) (j + 1)).map (Value.int .u8))) := by
        rw [flat_succ zs (κ + 1) j (by omega), ← HZ.out, List.map_append, Nat.succ_mul]; exact hown'
      have R2 : Below w.heap.size w w3 := (hBr.alloc hbs _).grown hgr (by simp; omega) (fun k hk => (hown.out.lt k hk).1)
      clear hown' hgr HOW HNW HN1 HNL hown hck
      go_wp2
      go_roundw
      case rel => exact ⟨j + 1, by omega, by go_num, R1, R2⟩
      case measure => simp [intOf]; omega
    · obtain ⟨a', g, cap', rfl, hown2⟩ := own_shape hown.out
      have HO : Hid (0 < j * (κ + 1) → a' = some ⟨g, 0, none⟩ ∧ j * (κ + 1) ≤ cap' ∧ cap' ≤ maxLen ∧ ∀ t, t < j * (κ + 1) → wr.cell? ⟨g, t, none⟩ = some (.int .u8 ((flat zs (κ + 1) j).getD t 0))) := hown2
      clear hown2 hown
      obtain rfl : j = N := by omega
      clear hj hlt
      have HP : Hid (0 < j → 0 < j * (κ + 1)) := fun h => Nat.mul_pos h (by omega)
      go_wp2_with fail
      go_loopw [7, 9] (fun v i wz => ∃ t : Nat, t ≤ j ∧ i = .int .i64 t ∧ ∃ a2 L cap2, v = .slice a2 L cap2 ∧ Hid (L = (j - t) * (κ + 1)) ∧ Hid (t < j → a2 = some ⟨g, t * (κ + 1), none⟩ ∧ L ≤ cap2 ∧ cap2 ≤ maxLen) ∧ ∃ q, wz = wr.drewN q) (fun _ i _ => j - (intOf i).toNat)
      case atStart => exact ⟨0, by omega, rfl, a', _, cap', rfl, by show _ = _; rw [Nat.sub_zero], fun h => by have := HO.out (HP.out h); exact ⟨by rw [Nat.zero_mul]; exact this.1, this.2.1, this.2.2.1⟩, 0, rfl⟩
      case round =>
        obtain ⟨t, ht, rfl, a2, L, cap2, rfl, HL, HA2, q, rfl⟩ := hrel
        by_cases hlt : t < j
        · obtain ⟨rfl, hLc, hcm⟩ := HA2.out hlt
          obtain ⟨ha, hbb⟩ := HA.out (by omega)
          subst ha
          obtain ⟨z, hzz⟩ : ∃ z, z = zs.getD t 0 := ⟨_, rfl⟩
          have hck : wr.cell? ⟨b, off + t, none⟩ = some (.int .u64 z) := by rw [hzz]; exact (hBr.cell hbb).trans (HCell.out t hlt)
          have hz0 : 0 ≤ z := by rw [hzz]; exact HR.out t hlt
          have hLk : (j - t) * (κ + 1) = (j - (t + 1)) * (κ + 1) + (κ + 1) := by rw [← Nat.succ_mul]; congr 1; omega
          have hLt : t * (κ + 1) + (j - t) * (κ + 1) = j * (κ + 1) := by rw [← Nat.add_mul]; congr 1; omega
          have hnum := suf_num zs (κ + 1) j t hz hlt (by omega) (by omega)
          rw [← hzz, ← low_bytes z (κ + 1) hz0 (by omega) (by omega)] at hnum
          have hLL : L = (j - t) * (κ + 1) := HL.out
          have HG : Hid _ := get_at g (t * (κ + 1)) L cap2 ((κ : Int) + 1) (κ + 1) (suf zs (κ + 1) j t) (wr.drewN q) (by simp) (by omega) (by omega) (by omega) hLc hcm
            (fun i hi => by
              have h1 := (HO.out (by omega)).2.2.2 (t * (κ + 1) + i) (by omega)
              rw [suf_getD zs (κ + 1) j t i hz (by omega)]
              simpa using h1) (by rw [suf_length zs _ _ _ hz]; omega) (suf_range zs (κ + 1) j t)
          rw [hnum] at HG
          have HL2 : Hid (L - (κ + 1) = (j - (t + 1)) * (κ + 1)) := by show _ = _; omega
          have HT : Hid (t + 1 < j → κ + 1 < L) := fun h => by
            have : 0 < (j - (t + 1)) * (κ + 1) := Nat.mul_pos (by omega) (by omega)
            omega
          have hk1 : κ + 1 ≤ L := by omega
          unfold maxLen at hcm
          clear hnum hLk hLt hLL hzz
          go_wp2_with fail
          refine Calls.mono HG.out ?_
          rintro e w3 ⟨off', q2, ho, rfl, rfl⟩
          have HO' : Hid (κ + 1 < L → off' = t * (κ + 1) + (κ + 1)) := ho
          clear ho HG
          go_wp2
          go_roundw
          case rel => exact ⟨t + 1, by omega, by go_num, _, _, _, rfl, HL2, fun h => ⟨by rw [HO'.out (HT.out h), Nat.succ_mul], by omega, by unfold maxLen; omega⟩, q + q2, by simp⟩
          case measure => simp [intOf]; omega
        · have hL0 : L = 0 := by rw [HL.out, show j - t = 0 by omega, Nat.zero_mul]
          subst hL0
          go_wp2_with fail
          refine (get_short_at _ _ _ _ (κ + 1) _ (by simp) (by omega) (by omega) (by omega)).mono ?_
          rintro e w3 ⟨rfl, rfl⟩
          go_wp2
          go_ret
          exact ⟨rfl, below_drewN hBr _⟩

theorem rows_walk (a : Option Addr) (len cap : Nat) (zs : List Int) (n : Int) (w : World) (h : IsRow .u64 w a len cap zs) :
    Calls Try.prog 7 #[.slice a len cap, .int .i64 n] w fun e w' => e = .returned (.bool true) ∧ Below w.heap.size w w' := by
  have hle := h.le
  by_cases hN : 100 < len
  · exact rows_long a len cap n w hN (Nat.le_trans hle.1 hle.2)
  · by_cases hc : cap = 0
    · exact rows_walk0 a len cap zs n w (by omega) (by omega) 0 0 (fun h => by omega) (fun i hi => by omega) (fun i hi => by omega)
    · obtain ⟨b, off, rfl, hlc, hm, hz, hb, hcell, hwf⟩ := h.at (by omega)
      refine rows_walk0 _ len cap zs n w (by omega) (by omega) b off (fun _ => ⟨rfl, hb⟩) (fun i hi => hcell i (by omega)) (fun i hi => ?_)
      rw [List.getD_eq_getElem?_getD, List.getElem?_eq_getElem (by omega), Option.getD_some]
      exact (bounds_u64 (hwf _ (List.getElem_mem _))).1
end Go.Proofs.Ythdcnmidfgcpaaa
