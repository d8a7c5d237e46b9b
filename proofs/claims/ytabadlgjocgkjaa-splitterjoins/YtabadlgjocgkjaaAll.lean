/-
  The contract of the document's All.
-/
import Derived.Test.YtabadlgjocgkjaaAddOn
import Derived.Test.YtabadlgjocgkjaaRefGetH
namespace Go.Proofs.Ytabadlgjocgkjaa
open Go.RowKit
set_option linter.unusedVariables false
set_option linter.unusedSimpArgs false

/-- How things stand in the loop of All: A bytes are done with. -/
structure AllAt (w wr : World) (ver : Int) (Q : List Int) (A : Nat) (fv : Value) (fs : List Fr) : Prop where
  own : Own 50 6 VF wr (fun k => w.heap.size ≤ k) fv fs
  bel : Below w.heap.size w wr
  told : spl ver Q = (fs ++ (spl ver (Q.drop A)).1, (spl ver (Q.drop A)).2)

/-- What All tells. -/
structure AllTold (w w' : World) (ver : Int) (Q : List Int) (fv : Value) : Prop where
  own : Own 50 6 VF w' (fun k => w.heap.size ≤ k) fv (spl ver Q).1
  bel : Below w.heap.size w w'

theorem AllAt.told_end {w wr w' : World} {ver : Int} {Q : List Int} {A : Nat} {fv : Value} {fs : List Fr} {R : List Int} {E : Int} (h : AllAt w wr ver Q A fv fs) (hS : spl ver (Q.drop A) = ([], R, E)) (hB : Below wr.heap.size wr w') :
    AllTold w w' ver Q fv ∧ spl ver Q = (fs, R, E) := by
  have ht := h.told
  rw [hS, List.append_nil] at ht
  refine ⟨⟨?_, h.bel.trans (hB.mono h.bel.size)⟩, ht⟩
  rw [ht]
  exact h.own.old stays_f hB

theorem ret_all {fv : Value} {a b c d : Int} (h : a = b) (h2 : c = d) : Ending.returned (.tuple #[fv, .int .i64 a, .int .i64 c]) = .returned (.tuple #[fv, .int .i64 b, .int .i64 d]) := by rw [h, h2]

theorem gE_vals {K : List Int} (hg : gE K = 0) : gV K = K.getD 0 0 ∧ gF K = K.getD 1 0 ∧ gS K = strm K ∧ gO K = K.getD 4 0 ∧ gL K = leng K := by
  unfold gV gF gS gO gL
  simp only [if_pos hg, and_self]

theorem gE_noughts {K : List Int} (hg : gE K ≠ 0) : gV K = 0 ∧ gF K = 0 ∧ gS K = 0 ∧ gO K = 0 ∧ gL K = 0 := by
  unfold gV gF gS gO gL
  simp only [if_neg hg, and_self]

/-- Behind append. -/
theorem all_kept {w wr w3 : World} {o : Obj} {v v3 : Value} {acc : List Fr} {x : Fr} (hO : Own 50 6 VF (wr.alloc o) (fun k => w.heap.size ≤ k) v acc) (hB : Below w.heap.size w wr) (ho : Own 50 6 VF w3 (fun k => w.heap.size ≤ k) v3 (acc ++ [x])) (hK : Kept (fun k => v.ownBlock = some k) (wr.alloc o) w3) :
    Hid (Own 50 6 VF w3 (fun k => w.heap.size ≤ k) v3 (acc ++ [x])) ∧ Hid (Below w.heap.size w w3) :=
  ⟨ho, (hB.trans ((below_one _ _).mono hB.size)).trans (hK.below (by have := hB.size; simp; omega) (fun k _ e => (hO.lt k e).1))⟩

/-- The header's box behind append. -/
theorem all_box {W3 w3 : World} {o : Obj} {S : Nat → Prop} {b : Nat} {v0 v1 v2 v3 v4 : Value} (hK : Kept S (W3.drew.alloc o) w3) (hb : b < W3.heap.size) (hn : ¬ S b) (p0 : W3.cell? ⟨b, 0, none⟩ = some v0) (p1 : W3.cell? ⟨b, 1, none⟩ = some v1) (p2 : W3.cell? ⟨b, 2, none⟩ = some v2) (p3 : W3.cell? ⟨b, 3, none⟩ = some v3) (p4 : W3.cell? ⟨b, 4, none⟩ = some v4) :
    w3.cell? ⟨b, 0, none⟩ = some v0 ∧ w3.cell? ⟨b, 1, none⟩ = some v1 ∧ w3.cell? ⟨b, 2, none⟩ = some v2 ∧ w3.cell? ⟨b, 3, none⟩ = some v3 ∧ w3.cell? ⟨b, 4, none⟩ = some v4 := by
  have hK2 : Kept S W3 w3 := ((kept_of (S := S) ((Below.refl _ _).drew.alloc (Nat.le_refl _) o)).trans hK (fun _ _ e => e))
  exact ⟨(hK2.cell (p := ⟨b, 0, none⟩) hb hn).trans p0, (hK2.cell (p := ⟨b, 1, none⟩) hb hn).trans p1, (hK2.cell (p := ⟨b, 2, none⟩) hb hn).trans p2, (hK2.cell (p := ⟨b, 3, none⟩) hb hn).trans p3, (hK2.cell (p := ⟨b, 4, none⟩) hb hn).trans p4⟩

theorem item_onesF {z0 z1 z2 z4 l : Int} {S : ByteArray} : ∀ u ∈ ([.int .u8 z0, .int .u8 z1, .int .i16 z2, .int .u8 z4, .int .u32 l, .string S] : List Value), u.oneCell' = true := by
  intro u hu
  simp only [List.mem_cons, List.not_mem_nil, or_false] at hu
  rcases hu with rfl | rfl | rfl | rfl | rfl | rfl <;> rfl

theorem item_blockF {z0 z1 z2 z4 l : Int} {S : ByteArray} {P : Nat → Prop} : ∀ j k, j < 6 → (([.int .u8 z0, .int .u8 z1, .int .i16 z2, .int .u8 z4, .int .u32 l, .string S] : List Value).getD j default).ownBlock = some k → P k := by
  intro j k hj hk
  rcases (show j = 0 ∨ j = 1 ∨ j = 2 ∨ j = 3 ∨ j = 4 ∨ j = 5 from by omega) with rfl | rfl | rfl | rfl | rfl | rfl <;> cases hk

set_option maxRecDepth 20000 in
set_option maxHeartbeats 2000000 in
theorem all_walk (ver : Int) {w : World} {a : Option Addr} {len cap : Nat} {Q : List Int} (h : IsB w a len cap Q) (hl : len ≤ 100000) {fs' : List Fr} {R' : List Int} {E' : Int} (hS' : spl ver Q = (fs', R', E')) :
    Calls Try.prog 12 #[.int .u8 ver, .slice a len cap] w fun e w' => ∃ fv, e = .returned (.tuple #[fv, .int .i64 ((len : Int) - R'.length), .int .i64 E']) ∧ AllTold w w' ver Q fv := by
  have HI : Hid (IsB w a len cap Q) := h
  have HQL : Hid (Q.length = len) := h.1
  have hcap : len ≤ cap := h.2.1
  have hcm : cap ≤ maxLen := h.2.2.1
  unfold maxLen at hcm
  have HS' : Hid (spl ver Q = (fs', R', E')) := hS'
  have HRL : Hid (R'.length ≤ len) := by
    have := (spl_rest (ver := ver) _ Q (Nat.le_refl _)).1
    rw [hS', h.1] at this
    exact this
  clear h hS'
  go_enter Try.func12, Try.ntmps12
  go_wp2_with fail
  go_loopw [7, 8] (fun fv av wr => ∃ (A : Nat) (fs : List Fr), A ≤ len ∧ av = .int .i64 A ∧ Hid (AllAt w wr ver Q A fv fs)) (fun _ av _ => len - (intOf av).toNat)
  case atStart => exact ⟨0, [], by omega, rfl, own_nil _ _ _ _ _, Below.refl _ _, by rw [List.drop_zero]; rfl⟩
  case round =>
    obtain ⟨A, fs, hA, rfl, HA⟩ := hrel
    have HDL : Hid ((Q.drop A).length = len - A) := by show _ = _; rw [List.length_drop, HQL.out]
    by_cases h9 : len - A < 9
    · have hli : ¬ (9 : Int) ≤ (len : Int) - A := by omega
      go_wp2_with fail
      go_ret3
      obtain ⟨hT, hs⟩ := HA.out.told_end (spl_less (by rw [HDL.out]; exact h9)) (Below.refl _ _)
      rw [HS'.out] at hs
      have h1 : R' = Q.drop A := congrArg (fun x => x.2.1) hs
      have h2 : E' = 0 := congrArg (fun x => x.2.2) hs
      exact ⟨u7, ret_all (by rw [h1, HDL.out]; omega) h2.symm, hT⟩
    · have hli : (9 : Int) ≤ (len : Int) - A := by omega
      obtain ⟨gb, ob, hab, hbr⟩ := (HI.out.old HA.out.bel).2.2.2.2 (by omega)
      subst hab
      have HBR : Hid (BRow wr gb ob len cap Q) := hbr
      have HBW0 : Hid (BRow w gb ob len cap Q) := by
        obtain ⟨_, _, e, h⟩ := HI.out.2.2.2.2 (by omega)
        cases e; exact h
      have hcA : ¬ cap = A := by omega
      have HG := @rget_any wr (some ⟨gb, ob + A, none⟩) (len - A) (cap - A) (Q.drop A) (hbr.drop (off' := ob + A) A hA (fun _ => rfl)).isB
      have hK := hok_of (range_drop hbr.rng A)
      clear hbr
      by_cases hg : gE (Q.drop A) = 0
      · obtain ⟨e0, e1, e2, e3, e4⟩ := gE_vals hg
        rw [e0, e1, e2, e3, e4, hg] at HG
        obtain ⟨z0, hz0⟩ : ∃ z, z = (Q.drop A).getD 0 0 := ⟨_, rfl⟩
        obtain ⟨z1, hz1⟩ : ∃ z, z = (Q.drop A).getD 1 0 := ⟨_, rfl⟩
        obtain ⟨z2, hz2⟩ : ∃ z, z = strm (Q.drop A) := ⟨_, rfl⟩
        obtain ⟨z4, hz4⟩ : ∃ z, z = (Q.drop A).getD 4 0 := ⟨_, rfl⟩
        obtain ⟨L, hL⟩ : ∃ L, L = frL (Q.drop A) := ⟨_, rfl⟩
        have hl0 := hK.l0
        have hl1 := hK.l1
        have hlm := leng_max hg
        have hz5 : leng (Q.drop A) = (L : Int) := by rw [hL]; unfold frL; omega
        rw [← hz0, ← hz1, ← hz2, ← hz4, hz5] at HG
        rw [hz5] at hl0 hl1 hlm
        have HFR : Hid (fr (Q.drop A) = (z0, z1, z2, z4, (L : Int), ((Q.drop A).drop 9).take L)) := by show fr _ = _; unfold fr; rw [hz0, hz1, hz2, hz4, hz5, hL]
        have HFL : Hid (frL (Q.drop A) = L) := hL.symm
        have HG' : Hid _ := HG
        have HV : Hid (hE ver (Q.drop A) = if z0 = ver then 0 else 20) := by show _ = _; unfold hE; rw [if_pos hg, hz0]
        clear HG hK e0 e1 e2 e3 e4 hg hz0 hz1 hz2 hz4 hz5 hL
        by_cases hv : z0 = ver
        · have HE0 : Hid (hE ver (Q.drop A) = 0) := by show _ = _; rw [HV.out, if_pos hv]
          have t1 : (z0 != ver) = false := by simpa using hv
          clear HV hv
          by_cases hto : len < A + 9 + L
          · have hti : (len : Int) < (A : Int) + 9 + L := by omega
            go_wp2_with fail
            refine Calls.mono HG'.out ?_
            rintro e w2 ⟨rfl, hB2⟩
            clear HG'
            go_wp2_with fail
            go_ret3
            obtain ⟨hT, hs⟩ := HA.out.told_end (spl_waits (by rw [HDL.out]; omega) HE0.out (by rw [HDL.out, HFL.out]; omega)) (hB2.trans ((below_one _ _).mono hB2.size))
            rw [HS'.out] at hs
            have h1 : R' = Q.drop A := congrArg (fun x => x.2.1) hs
            have h2 : E' = 0 := congrArg (fun x => x.2.2) hs
            exact ⟨u7, ret_all (by rw [h1, HDL.out]; omega) h2.symm, hT⟩
          · have hti : ¬ (len : Int) < (A : Int) + 9 + L := by omega
            have hcap9 : (A : Int) + 9 ≤ cap := by omega
            have hA0 : (0 : Int) ≤ (A : Int) + 9 := by omega
            have hn1 : ((A : Int) + 9).toNat = A + 9 := by omega
            have hn2 : ((A : Int) + 9 + L).toNat = A + 9 + L := by omega
            have hA9 : (A : Int) + 9 ≤ (A : Int) + 9 + L := by omega
            have hAw : IntKind.i64.wrap ((A : Int) + 9) = (A : Int) + 9 := by rw [IntKind.wrap_i64]; omega
            have hcapL : (A : Int) + 9 + L ≤ cap := by omega
            have HAL : Hid (fs.length + 1 ≤ 100000) := by
              have h1 := congrArg (fun x => x.1.length) HA.out.told
              have h2 := (spl_rest (ver := ver) _ Q (Nat.le_refl _)).2.2.2
              have h3 := spl_step (ver := ver) (zs := Q.drop A) HE0.out (by rw [HDL.out, HFL.out]; omega)
              rw [h3] at h1
              simp only [List.length_append, List.length_cons] at h1
              have := HQL.out
              show _ ≤ _
              omega
            by_cases hcc : cap = A + 9
            · have HCC : Hid (cap = A + 9) := hcc
              clear hcc
              go_wp2_with fail
              refine Calls.mono HG'.out ?_
              rintro e w2 ⟨rfl, hB2⟩
              clear HG'
              go_wp2_with fail
              have hL0 : L = 0 := by have := HCC.out; omega
              have hln : len = A + 9 := by have := HCC.out; omega
              have hcp : cap = A + 9 := HCC.out
              subst hL0 hln hcp
              rw [show ((0 : Nat) : Int) = 0 from rfl]
              have hB3 : Below wr.heap.size wr (w2.alloc (.cells #[.int .u8 z0, .int .u8 z1, .int .i16 z2, .int .u8 z4, .int .u32 0] 48)) := hB2.trans ((below_one _ _).mono hB2.size)
              obtain ⟨y, hy⟩ : ∃ y : Fr, y = (z0, z1, z2, z4, 0, ((Q.drop A).drop 9).take 0) := ⟨_, rfl⟩
              obtain ⟨SX, hSX⟩ : ∃ S, S = strOfNums (((Q.drop A).drop 9).take 0) := ⟨_, rfl⟩
              have HBX : Hid (∀ W, Below w.heap.size w W → (convert 26 9 (.slice (some ⟨gb, ob, none⟩) 0 0)).run Try.prog W = .ok (.string SX) W) := fun W hW => by
                have h1 := ((HBW0.out.old hW).piece (off' := ob) (A + 9) (A + 9 + 0) (by omega) (by omega) (fun h => by omega)).conv
                rw [show A + 9 + 0 - (A + 9) = 0 from by omega] at h1
                rw [hSX, List.drop_drop]
                simpa using h1
              obtain ⟨W3, hW3⟩ : ∃ W, W = w2.alloc (.cells #[.int .u8 z0, .int .u8 z1, .int .i16 z2, .int .u8 z4, .int .u32 0] 48) := ⟨_, rfl⟩
              have hp : W3.cell? ⟨w2.heap.size, 0, none⟩ = some (.int .u8 z0) ∧ W3.cell? ⟨w2.heap.size, 1, none⟩ = some (.int .u8 z1) ∧ W3.cell? ⟨w2.heap.size, 2, none⟩ = some (.int .i16 z2) ∧ W3.cell? ⟨w2.heap.size, 3, none⟩ = some (.int .u8 z4) ∧ W3.cell? ⟨w2.heap.size, 4, none⟩ = some (.int .u32 0) ∧ w2.heap.size < W3.heap.size := by
                rw [hW3]; exact box5 (Below.refl _ _)
              obtain ⟨p0, p1, p2, p3, p4, hz3⟩ := hp
              have HB3 : Hid (Below wr.heap.size wr W3) := by rw [hW3]; exact hB3
              have HO3 : Hid (Own 50 6 VF (W3.drew.alloc (.cells #[.int .u8 z0, .int .u8 z1, .int .i16 z2, .int .u8 z4, .int .u32 0, .string SX] 50)) (fun k => w.heap.size ≤ k) u7 fs) := (HA.out.own.old stays_f HB3.out).old stays_f ((Below.refl _ _).drew.alloc (Nat.le_refl _) _)
              have HVy : Hid (VF (W3.drew.alloc (.cells #[.int .u8 z0, .int .u8 z1, .int .i16 z2, .int .u8 z4, .int .u32 0, .string SX] 50)) y (fun j => ([.int .u8 z0, .int .u8 z1, .int .i16 z2, .int .u8 z4, .int .u32 0, .string SX] : List Value).getD j default)) := by rw [hy, hSX]; exact ⟨rfl, rfl, rfl, rfl, rfl, rfl⟩
              have HBW : Hid (Below w.heap.size w W3.drew) := (HA.out.bel.trans (HB3.out.mono HA.out.bel.size)).drew
              have hcv0 := HBX.out W3.drew HBW.out
              have hcv1 := HBX.out (W3.drew.alloc (.cells #[.int .u8 z0, .int .u8 z1, .int .i16 z2, .int .u8 z4, .int .u32 0, .string SX] 50)) (HBW.out.trans ((below_one _ _).mono HBW.out.size))
              have HM : Hid (fs.length + 1 ≤ maxLen ∧ (fs.length + 1) * 32 ≤ 140737488355328) := by
                have := HAL.out
                show _ ∧ _
                unfold maxLen; omega
              have hF9 : w.heap.size ≤ W3.heap.size := HBW.out.size
              have HNB : Hid (¬ u7.ownBlock = some w2.heap.size) := fun e => by have := (HA.out.own.lt _ e).2; have := hB2.size; omega
              have HY : Hid (y = fr (Q.drop A)) := by rw [hy]; exact HFR.out.symm
              have HW3 : Hid (W3 = w2.alloc (.cells #[.int .u8 z0, .int .u8 z1, .int .i16 z2, .int .u8 z4, .int .u32 0] 48)) := hW3
              clear hy hSX hB2 hB3
              rw [← hW3]
              clear hW3
              go_region_held3 (fun w' => w'.cell? ⟨w2.heap.size, 0, none⟩ = some (.int .u8 z0) ∧ w'.cell? ⟨w2.heap.size, 1, none⟩ = some (.int .u8 z1) ∧ w'.cell? ⟨w2.heap.size, 2, none⟩ = some (.int .i16 z2) ∧ w'.cell? ⟨w2.heap.size, 3, none⟩ = some (.int .u8 z4) ∧ w'.cell? ⟨w2.heap.size, 4, none⟩ = some (.int .u32 0) ∧ (convert 26 9 (.slice (some ⟨gb, ob, none⟩) 0 0)).run Try.prog w' = .ok (.string SX) w')
                (refine ⟨?_, ?_, ?_, ?_, ?_, ?_⟩ <;> first | assumption | (simp [*, World.cell?_alloc_some]; done))
                (first
                  | (refine step_append_item rfl (.tmp 48) (.tmp 57) 27 rfl stays_f elem_f (by rfl) HO3.out (by rfl) (heap_alloc_new W3.drew _) rfl item_onesF y HVy.out item_blockF (by simp; omega) HM.out.1 HM.out.2 ?_; intro v3 w3 ho3 hK3 hat3; obtain ⟨HO4, HB4⟩ := all_kept HO3.out HBW.out ho3 hK3; have hcv4 := HBX.out w3 HB4.out; obtain ⟨r0, r1, r2, r3, r4⟩ := all_box hK3 hz3 HNB.out p0 p1 p2 p3 p4; clear ho3 hK3 hat3))
              go_wp2_with fail
              go_roundw
              case rel =>
                refine ⟨A + 9 + 0, fs ++ [y], by omega, by go_num, HO4.out, HB4.out, ?_⟩
                rw [HA.out.told, spl_step (ver := ver) (zs := Q.drop A) HE0.out (by rw [HDL.out, HFL.out]; omega), HFL.out, ← HY.out, List.drop_drop, ← Nat.add_assoc]
                simp
              case measure => simp [intOf]; omega
            · have hcci : ¬ (cap : Int) = A + 9 := by omega
              go_wp2_with fail
              refine Calls.mono HG'.out ?_
              rintro e w2 ⟨rfl, hB2⟩
              clear HG'
              go_wp2_with fail
              have hB3 : Below wr.heap.size wr (w2.alloc (.cells #[.int .u8 z0, .int .u8 z1, .int .i16 z2, .int .u8 z4, .int .u32 L] 48)) := hB2.trans ((below_one _ _).mono hB2.size)
              obtain ⟨y, hy⟩ : ∃ y : Fr, y = (z0, z1, z2, z4, (L : Int), ((Q.drop A).drop 9).take L) := ⟨_, rfl⟩
              obtain ⟨SX, hSX⟩ : ∃ S, S = strOfNums (((Q.drop A).drop 9).take L) := ⟨_, rfl⟩
              have HBX : Hid (∀ W, Below w.heap.size w W → (convert 26 9 (.slice (some ⟨gb, ob + (A + 9), none⟩) L (cap - (A + 9)))).run Try.prog W = .ok (.string SX) W) := fun W hW => by
                have h1 := ((HBW0.out.old hW).piece (off' := ob + (A + 9)) (A + 9) (A + 9 + L) (by omega) (by omega) (fun h => by rfl)).conv
                rw [show A + 9 + L - (A + 9) = L from by omega] at h1
                rw [hSX, List.drop_drop]
                simpa using h1
              obtain ⟨W3, hW3⟩ : ∃ W, W = w2.alloc (.cells #[.int .u8 z0, .int .u8 z1, .int .i16 z2, .int .u8 z4, .int .u32 L] 48) := ⟨_, rfl⟩
              have hp : W3.cell? ⟨w2.heap.size, 0, none⟩ = some (.int .u8 z0) ∧ W3.cell? ⟨w2.heap.size, 1, none⟩ = some (.int .u8 z1) ∧ W3.cell? ⟨w2.heap.size, 2, none⟩ = some (.int .i16 z2) ∧ W3.cell? ⟨w2.heap.size, 3, none⟩ = some (.int .u8 z4) ∧ W3.cell? ⟨w2.heap.size, 4, none⟩ = some (.int .u32 L) ∧ w2.heap.size < W3.heap.size := by
                rw [hW3]; exact box5 (Below.refl _ _)
              obtain ⟨p0, p1, p2, p3, p4, hz3⟩ := hp
              have HB3 : Hid (Below wr.heap.size wr W3) := by rw [hW3]; exact hB3
              have HO3 : Hid (Own 50 6 VF (W3.drew.alloc (.cells #[.int .u8 z0, .int .u8 z1, .int .i16 z2, .int .u8 z4, .int .u32 L, .string SX] 50)) (fun k => w.heap.size ≤ k) u7 fs) := (HA.out.own.old stays_f HB3.out).old stays_f ((Below.refl _ _).drew.alloc (Nat.le_refl _) _)
              have HVy : Hid (VF (W3.drew.alloc (.cells #[.int .u8 z0, .int .u8 z1, .int .i16 z2, .int .u8 z4, .int .u32 L, .string SX] 50)) y (fun j => ([.int .u8 z0, .int .u8 z1, .int .i16 z2, .int .u8 z4, .int .u32 L, .string SX] : List Value).getD j default)) := by rw [hy, hSX]; exact ⟨rfl, rfl, rfl, rfl, rfl, rfl⟩
              have HBW : Hid (Below w.heap.size w W3.drew) := (HA.out.bel.trans (HB3.out.mono HA.out.bel.size)).drew
              have hcv0 := HBX.out W3.drew HBW.out
              have hcv1 := HBX.out (W3.drew.alloc (.cells #[.int .u8 z0, .int .u8 z1, .int .i16 z2, .int .u8 z4, .int .u32 L, .string SX] 50)) (HBW.out.trans ((below_one _ _).mono HBW.out.size))
              have HM : Hid (fs.length + 1 ≤ maxLen ∧ (fs.length + 1) * 32 ≤ 140737488355328) := by
                have := HAL.out
                show _ ∧ _
                unfold maxLen; omega
              have hF9 : w.heap.size ≤ W3.heap.size := HBW.out.size
              have HNB : Hid (¬ u7.ownBlock = some w2.heap.size) := fun e => by have := (HA.out.own.lt _ e).2; have := hB2.size; omega
              have HY : Hid (y = fr (Q.drop A)) := by rw [hy]; exact HFR.out.symm
              have HW3 : Hid (W3 = w2.alloc (.cells #[.int .u8 z0, .int .u8 z1, .int .i16 z2, .int .u8 z4, .int .u32 L] 48)) := hW3
              clear hy hSX hB2 hB3
              rw [← hW3]
              clear hW3
              go_region_held3 (fun w' => w'.cell? ⟨w2.heap.size, 0, none⟩ = some (.int .u8 z0) ∧ w'.cell? ⟨w2.heap.size, 1, none⟩ = some (.int .u8 z1) ∧ w'.cell? ⟨w2.heap.size, 2, none⟩ = some (.int .i16 z2) ∧ w'.cell? ⟨w2.heap.size, 3, none⟩ = some (.int .u8 z4) ∧ w'.cell? ⟨w2.heap.size, 4, none⟩ = some (.int .u32 L) ∧ (convert 26 9 (.slice (some ⟨gb, ob + (A + 9), none⟩) L (cap - (A + 9)))).run Try.prog w' = .ok (.string SX) w')
                (refine ⟨?_, ?_, ?_, ?_, ?_, ?_⟩ <;> first | assumption | (simp [*, World.cell?_alloc_some]; done))
                (first
                  | (refine step_append_item rfl (.tmp 48) (.tmp 57) 27 rfl stays_f elem_f (by rfl) HO3.out (by rfl) (heap_alloc_new W3.drew _) rfl item_onesF y HVy.out item_blockF (by simp; omega) HM.out.1 HM.out.2 ?_; intro v3 w3 ho3 hK3 hat3; obtain ⟨HO4, HB4⟩ := all_kept HO3.out HBW.out ho3 hK3; have hcv4 := HBX.out w3 HB4.out; obtain ⟨r0, r1, r2, r3, r4⟩ := all_box hK3 hz3 HNB.out p0 p1 p2 p3 p4; clear ho3 hK3 hat3))
              go_wp2_with fail
              go_roundw
              case rel =>
                refine ⟨A + 9 + L, fs ++ [y], by omega, by go_num, HO4.out, HB4.out, ?_⟩
                rw [HA.out.told, spl_step (ver := ver) (zs := Q.drop A) HE0.out (by rw [HDL.out, HFL.out]; omega), HFL.out, ← HY.out, List.drop_drop, ← Nat.add_assoc]
                simp
              case measure => simp [intOf]; omega
        · have HE0 : Hid (hE ver (Q.drop A) = 20) := by show _ = _; rw [HV.out, if_neg hv]
          have t1 : (z0 != ver) = true := by simpa using hv
          clear HV
          go_wp2_with fail
          refine Calls.mono HG'.out ?_
          rintro e w2 ⟨rfl, hB2⟩
          clear HG'
          go_wp2_with fail
          go_ret3
          obtain ⟨hT, hs⟩ := HA.out.told_end (spl_wrong (by rw [HDL.out]; omega) (by rw [HE0.out]; decide)) (hB2.trans ((below_one _ _).mono hB2.size))
          rw [HS'.out, HE0.out] at hs
          have h1 : R' = [] := congrArg (fun x => x.2.1) hs
          have h2 : E' = 20 := congrArg (fun x => x.2.2) hs
          exact ⟨u7, ret_all (by rw [h1]; simp) h2.symm, hT⟩
      · obtain ⟨e0, e1, e2, e3, e4⟩ := gE_noughts hg
        rw [e0, e1, e2, e3, e4] at HG
        have HE0 : Hid (hE ver (Q.drop A) = gE (Q.drop A)) := by show _ = _; unfold hE; rw [if_neg hg]
        obtain ⟨G, hG⟩ : ∃ G, G = gE (Q.drop A) := ⟨_, rfl⟩
        rw [← hG] at HG HE0 hg
        have HG' : Hid _ := HG
        have t1 : (G == 0) = false := by simpa using hg
        have t2 : (G != 0) = true := by simpa using hg
        have HGN : Hid (G ≠ 0) := hg
        clear HG hK e0 e1 e2 e3 e4 hG hg
        go_wp2_with fail
        refine Calls.mono HG'.out ?_
        rintro e w2 ⟨rfl, hB2⟩
        clear HG'
        go_wp2_with fail
        go_ret3
        obtain ⟨hT, hs⟩ := HA.out.told_end (spl_wrong (by rw [HDL.out]; omega) (by rw [HE0.out]; exact HGN.out)) (hB2.trans ((below_one _ _).mono hB2.size))
        rw [HS'.out, HE0.out] at hs
        have h1 : R' = [] := congrArg (fun x => x.2.1) hs
        have h2 : E' = G := congrArg (fun x => x.2.2) hs
        exact ⟨u7, ret_all (by rw [h1]; simp) h2.symm, hT⟩
/-- What All tells of any bytes. -/
theorem all_any (ver : Int) {w : World} {a : Option Addr} {len cap : Nat} {Q : List Int} (h : IsB w a len cap Q) (hl : len ≤ 100000) {fs : List Fr} {R : List Int} {E : Int} (hS : spl ver Q = (fs, R, E)) :
    Calls Try.prog 12 #[.int .u8 ver, .slice a len cap] w fun e w' => ∃ af cf, e = .returned (.tuple #[.slice af fs.length cf, .int .i64 ((len : Int) - R.length), .int .i64 E]) ∧ View 6 VF w' af fs.length cf fs ∧ (∀ p, af = some p → w.heap.size ≤ p.block) ∧ Below w.heap.size w w' := by
  refine (all_walk ver h hl hS).mono ?_
  rintro e w' ⟨fv, rfl, hT⟩
  have ho := hT.own
  rw [hS] at ho
  obtain ⟨af, cf, rfl, hv, hp⟩ := ho.view
  exact ⟨af, cf, rfl, hv, fun p e => (hp p e).1, hT.bel⟩
end Go.Proofs.Ytabadlgjocgkjaa
