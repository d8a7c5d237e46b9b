/-
  Two layings of one table are the same.
-/
import Derived.Test.YtnapeecmlkkolaaDoorRGet10
import Derived.Test.YtnapeecmlkkolaaDoorTof10
import Derived.Test.YtnapeecmlkkolaaDoorSame
import Derived.Test.YtnapeecmlkkolaaDoorTv10
namespace Go.Proofs.YtnapeecmlkkolaaDoor
open Go.RowKit
set_option maxRecDepth 100000
set_option linter.unusedVariables false
set_option linter.unusedSimpArgs false

def VRsS : Vw (List Vl) := fun F w xs c => ∃ a l cp, c 0 = .slice a l cp ∧ Sees 2 F (VVs F w) w a l cp xs

theorem stays_rsS : StaysI 1 VRsS := by
  intro F F' w w' x c c' h hc hb hs hF
  obtain ⟨a, l, cp, h0, hv⟩ := h
  exact ⟨a, l, cp, (hc 0 (by omega)).trans h0, hv.kept stays_vs hb hs hF⟩

theorem rs_rsS {F : Nat → Prop} {w : World} {xs : List Vl} {c : Nat → Value} (h : VRs F w xs c) : VRsS F w xs c := by
  obtain ⟨a, cap, e, hs⟩ := OwnI.sees (U := VVs F w) h (fun _ _ _ hv => hv) stays_vs
  exact ⟨a, _, cap, e, hs⟩

/-- A table of the document's, seen. -/
def DtS (n : Nat) (F : Nat → Prop) (w : World) (L : List Col) (Q : List (List Vl)) (ca : Option Addr) (cl cc : Nat) (ra : Option Addr) (rl rc : Nat) : Prop :=
  Sees 8 F (VCol n F w) w ca cl cc L ∧ Sees 1 F (VRsS F w) w ra rl rc Q

theorem DtS.old {n : Nat} {w W : World} {F : Nat → Prop} {L : List Col} {Q : List (List Vl)} {ca : Option Addr} {cl cc : Nat} {ra : Option Addr} {rl rc : Nat} (h : DtS n F w L Q ca cl cc ra rl rc) (hB : Below w.heap.size w W) : DtS n F W L Q ca cl cc ra rl rc :=
  ⟨h.1.kept (stays_col n) (fun k hk _ => hB.block k hk) hB.size (fun _ _ hf => hf), h.2.kept stays_rsS (fun k hk _ => hB.block k hk) hB.size (fun _ _ hf => hf)⟩

theorem DtO.view {n : Nat} {w : World} {F : Nat → Prop} {T : List Col × List (List Vl)} {ca : Option Addr} {cl cc : Nat} {ra : Option Addr} {rl rc : Nat} (h : DtO n w F T ca cl cc ra rl rc) : DtS n F w T.1 T.2 ca cl cc ra rl rc := by
  obtain ⟨h1, h3⟩ := h
  obtain ⟨a, cap, e, hs⟩ := h1.sees (U := VCol n F w) (fun _ _ _ hv => hv) (stays_col n)
  obtain ⟨a3, cap3, e3, hs3⟩ := h3.sees (U := VRsS F w) (fun _ _ _ hv => rs_rsS hv) stays_rs
  cases e; cases e3
  exact ⟨hs, hs3⟩

theorem Sees.vs {F : Nat → Prop} {w : World} {a : Option Addr} {len cap : Nat} {xs : List Vl} (h : Sees 2 F (VVs F w) w a len cap xs) {k : Nat} (hk : k < len) :
    ∃ V b off, xs[k]? = some V ∧ a = some ⟨b, off, none⟩ ∧ b < w.heap.size ∧ F b ∧ w.cell? ⟨b, off + k * 2, none⟩ = some (.int .i64 V.1) ∧ w.cell? ⟨b, off + k * 2 + 1, none⟩ = some (.string V.2) := by
  obtain ⟨V, b, off, c, hx, ha, hb, hF, hcell, h0, h1⟩ := h.at hk
  refine ⟨V, b, off, hx, ha, hb, hF, ?_, ?_⟩
  · have := hcell 0 (by omega); rw [h0] at this; exact this
  · have := hcell 1 (by omega); rw [h1] at this; rw [Nat.add_assoc]; exact this

theorem Sees.rs {F : Nat → Prop} {w : World} {a : Option Addr} {len cap : Nat} {xs : List (List Vl)} (h : Sees 1 F (VRsS F w) w a len cap xs) {k : Nat} (hk : k < len) :
    ∃ r b off x lx cx, xs[k]? = some r ∧ a = some ⟨b, off, none⟩ ∧ b < w.heap.size ∧ F b ∧ w.cell? ⟨b, off + k, none⟩ = some (.slice x lx cx) ∧ Sees 2 F (VVs F w) w x lx cx r := by
  obtain ⟨r, b, off, c, hx, ha, hb, hF, hcell, x, lx, cx, h0, hv⟩ := h.at hk
  refine ⟨r, b, off, x, lx, cx, hx, ha, hb, hF, ?_, hv⟩
  have := hcell 0 (by omega); rw [h0, Nat.mul_one] at this; exact this

set_option maxHeartbeats 8000000 in
theorem sameT {w : World} {F F' : Nat → Prop} {n : Int} {L : List Col} {mo : Bool} {sk : Int} {sb : ByteArray} {Q : List (List Vl)} {ca : Option Addr} {cl cc : Nat} {ra : Option Addr} {rl rc : Nat} {ca' : Option Addr} {cc' : Nat} {ra' : Option Addr} {rc' : Nat}
    (h : DtS (19 + 1) F w L Q ca cl cc ra rl rc) (h' : DtS (19 + 1) F' w L Q ca' cl cc' ra' rl rc') :
    Calls Tryd.prog 12 #[.agg #[.int .i64 n, .slice ca cl cc, .bool mo, .int .i64 sk, .string sb, .slice ra rl rc], .agg #[.int .i64 n, .slice ca' cl cc', .bool mo, .int .i64 sk, .string sb, .slice ra' rl rc']] w fun e w' => e = .returned (.bool true) ∧ Below w.heap.size w w' := by
  obtain ⟨p, hp⟩ : ∃ p, p = w.heap.size := ⟨_, rfl⟩
  have HPE : Hid (w.heap.size = p) := hp.symm
  obtain ⟨q, hq⟩ : ∃ q, q = p + 1 := ⟨_, rfl⟩
  have HQE : Hid (p + 1 = q) := hq.symm
  obtain ⟨w0, hw0⟩ : ∃ w0, w0 = (w.alloc (.cells #[.int .i64 n, .slice ca cl cc, .bool mo, .int .i64 sk, .string sb, .slice ra rl rc] 38)).alloc (.cells #[.int .i64 n, .slice ca' cl cc', .bool mo, .int .i64 sk, .string sb, .slice ra' rl rc'] 38) := ⟨_, rfl⟩
  have HW0 : Hid ((w.alloc (.cells #[.int .i64 n, .slice ca cl cc, .bool mo, .int .i64 sk, .string sb, .slice ra rl rc] 38)).alloc (.cells #[.int .i64 n, .slice ca' cl cc', .bool mo, .int .i64 sk, .string sb, .slice ra' rl rc'] 38) = w0) := hw0.symm
  have HB0 : Hid (Below w.heap.size w w0) := by rw [hw0]; exact (below_one _ _).alloc (by simp) _
  have HP0 : Hid (w0.heap[p]? = some (.cells #[.int .i64 n, .slice ca cl cc, .bool mo, .int .i64 sk, .string sb, .slice ra rl rc] 38 (0, 0))) := by
    show _ = _
    rw [hw0, hp]
    exact ((below_one (w.alloc (.cells #[.int .i64 n, .slice ca cl cc, .bool mo, .int .i64 sk, .string sb, .slice ra rl rc] 38)) _).block w.heap.size (by simp)).trans (heap_alloc_new w _)
  have HQ0 : Hid (w0.heap[q]? = some (.cells #[.int .i64 n, .slice ca' cl cc', .bool mo, .int .i64 sk, .string sb, .slice ra' rl rc'] 38 (0, 0))) := by
    show _ = _
    rw [hw0, hq, hp]
    have hsz : (w.alloc (.cells #[.int .i64 n, .slice ca cl cc, .bool mo, .int .i64 sk, .string sb, .slice ra rl rc] 38)).heap.size = w.heap.size + 1 := by simp
    rw [← hsz]
    exact heap_alloc_new _ _
  obtain ⟨g, hg⟩ : ∃ g, g = w0.heap.size := ⟨_, rfl⟩
  have HGE : Hid (w0.heap.size = g) := hg.symm
  have hpg : p < g := by rw [hg]; exact block_lt HP0.out
  have hqg : q < g := by rw [hg]; exact block_lt HQ0.out
  have HPG : Hid (p < g) := hpg
  have HQG : Hid (q < g) := hqg
  have HBW : Hid (∀ W, Below g w0 W → Below w.heap.size w W) := fun W hW => HB0.out.trans (hW.mono (by rw [hg]; exact HB0.out.size))
  have HA : Hid (∀ W, Below g w0 W → DtS (19 + 1) F W L Q ca cl cc ra rl rc) := fun W hW => h.old (HBW.out W hW)
  have HA' : Hid (∀ W, Below g w0 W → DtS (19 + 1) F' W L Q ca' cl cc' ra' rl rc') := fun W hW => h'.old (HBW.out W hW)
  have HPW : Hid (∀ W, Below g w0 W → W.heap[p]? = some (.cells #[.int .i64 n, .slice ca cl cc, .bool mo, .int .i64 sk, .string sb, .slice ra rl rc] 38 (0, 0))) := fun W hW => (hW.block p hpg).trans HP0.out
  have HQW : Hid (∀ W, Below g w0 W → W.heap[q]? = some (.cells #[.int .i64 n, .slice ca' cl cc', .bool mo, .int .i64 sk, .string sb, .slice ra' rl rc'] 38 (0, 0))) := fun W hW => (hW.block q hqg).trans HQ0.out
  have hcl : cl ≤ maxLen := by have := h.1.max; omega
  have hrl : rl ≤ maxLen := by have := h.2.max; omega
  unfold maxLen at hcl hrl
  obtain ⟨⟨a0, a1, a2, a3, a4, a5⟩, _⟩ := blk6 HP0.out
  obtain ⟨⟨b0, b1, b2, b3, b4, b5⟩, _⟩ := blk6 HQ0.out
  have r1 : (sk == sk) = true := by simp
  have r2 : (sb.toList == sb.toList) = true := by simp
  have r3 : (n == n) = true := by simp
  have r4 : (mo == mo) = true := by simp
  clear hp hq hw0 hg hpg hqg h h'
  go_enter Tryd.func12, Tryd.ntmps12
  go_upto_region 1 with fail
  (try rw [HPE.out])
  (try rw [HQE.out])
  rw [HW0.out]
  clear HW0 HP0 HQ0
  go_upto_region 3 with fail
  clear a0 a1 a2 a3 a4 a5 b0 b1 b2 b3 b4 b5
  have HBX : Hid (Below g w0 w0) := Below.refl _ _
  go_wp2_with fail
  go_loopw [5] (fun t wr => ∃ i : Nat, i ≤ cl ∧ t = .int .i64 i ∧ Hid (Below g w0 wr)) (fun t _ => cl - (intOf t).toNat)
  case atStart => exact ⟨0, by omega, rfl, HBX⟩
  case round =>
    obtain ⟨i, hi, rfl, HBi⟩ := hrel
    clear HBX
    obtain ⟨w1, hw1⟩ : ∃ x, x = wr := ⟨_, rfl⟩
    subst hw1
    obtain ⟨⟨a0, a1, a2, a3, a4, a5⟩, _⟩ := blk6 (HPW.out _ HBi.out)
    obtain ⟨⟨b0, b1, b2, b3, b4, b5⟩, _⟩ := blk6 (HQW.out _ HBi.out)
    by_cases hlt : i < cl
    case pos =>
      obtain ⟨s, t, nm, X, b, off, na, nl, nc, ka, kl, kc, hx, rfl, hb, _, ⟨c0, c1, c2, c3, c4, c5, c6, c7⟩, _, hty⟩ := (HA.out _ HBi.out).1.col hlt
      obtain ⟨s', t', nm', X', b', off', na', nl', nc', ka', kl', kc', hx', rfl, hb', _, ⟨c0', c1', c2', c3', c4', c5', c6', c7'⟩, _, hty'⟩ := (HA'.out _ HBi.out).1.col hlt
      have hxx := hx.symm.trans hx'
      simp only [Option.some.injEq, Prod.mk.injEq] at hxx
      obtain ⟨rfl, rfl, rfl, rfl⟩ := hxx
      have HIN : Hid (TyAt 19 F w1 X na nl nc ka kl kc) := hty
      have HIN' : Hid (TyAt 19 F' w1 X na' nl' nc' ka' kl' kc') := hty'
      have HC : Hid (w1.cell? ⟨b, off + i * 8, none⟩ = some (.string s) ∧ w1.cell? ⟨b, off + i * 8 + 1, none⟩ = some (.string t) ∧ w1.cell? ⟨b, off + i * 8 + 2, none⟩ = some (.string nm)) := ⟨c0, c1, c2⟩
      have HC' : Hid (w1.cell? ⟨b', off' + i * 8, none⟩ = some (.string s) ∧ w1.cell? ⟨b', off' + i * 8 + 1, none⟩ = some (.string t) ∧ w1.cell? ⟨b', off' + i * 8 + 2, none⟩ = some (.string nm)) := ⟨c0', c1', c2'⟩
      have HBB : Hid (b < w1.heap.size ∧ b' < w1.heap.size) := ⟨hb, hb'⟩
      clear hx hx' hty hty'
      go_upto_region 6 with fail
      go_cut [6] (fun v wc => v = .bool true ∧ Below w1.heap.size w1 wc)
      case first =>
        go_region_with (go_at_call 20; refine (same_any 19 F F' _ X _ _ _ _ _ _ _ _ _ _ _ _ (HIN.out.old ?_) (HIN'.out.old ?_)).mono ?_; (exact (Below.refl _ _).drew); (exact (Below.refl _ _).drew); rintro e w3 ⟨rfl, hB3⟩)
        all_goals (go_wp2_with fail; go_meet; exact ⟨rfl, (Below.refl _ _).drew.trans hB3⟩)
      case rest =>
        obtain ⟨rfl, hBc⟩ := hcut
        clear a0 a1 a2 a3 a4 a5 b0 b1 b2 b3 b4 b5 c0 c1 c2 c3 c4 c5 c6 c7 c0' c1' c2' c3' c4' c5' c6' c7' hb hb'
        have HB3 : Hid (Below g w0 wc) := HBi.out.trans (hBc.mono (by rw [← HGE.out]; exact HBi.out.size))
        have hk : ∀ j, wc.cell? ⟨b, j, none⟩ = w1.cell? ⟨b, j, none⟩ := fun j => hBc.cell (p := ⟨b, j, none⟩) HBB.out.1
        have hk' : ∀ j, wc.cell? ⟨b', j, none⟩ = w1.cell? ⟨b', j, none⟩ := fun j => hBc.cell (p := ⟨b', j, none⟩) HBB.out.2
        obtain ⟨⟨a0, a1, a2, a3, a4, a5⟩, _⟩ := blk6 (HPW.out _ HB3.out)
        obtain ⟨⟨b0, b1, b2, b3, b4, b5⟩, _⟩ := blk6 (HQW.out _ HB3.out)
        have c0 := (hk (off + i * 8)).trans HC.out.1
        have c1 := (hk (off + i * 8 + 1)).trans HC.out.2.1
        have c2 := (hk (off + i * 8 + 2)).trans HC.out.2.2
        have c0' := (hk' (off' + i * 8)).trans HC'.out.1
        have c1' := (hk' (off' + i * 8 + 1)).trans HC'.out.2.1
        have c2' := (hk' (off' + i * 8 + 2)).trans HC'.out.2.2
        have q1 : (s.toList == s.toList) = true := by simp
        have q2 : (t.toList == t.toList) = true := by simp
        have q3 : (nm.toList == nm.toList) = true := by simp
        clear hBc hk hk'
        go_upto_region 7 with fail
        go_quiet (fail)
        go_wp2_with fail
        go_roundw
        case rel => exact ⟨i + 1, by omega, by go_num, below_drewN HB3.out _⟩
        case measure => simp [intOf]; omega
    case neg =>
      obtain rfl : i = cl := by omega
      go_wp2_with fail
      go_loopw [7] (fun t wr => ∃ j : Nat, j ≤ rl ∧ t = .int .i64 j ∧ Hid (Below g w0 wr)) (fun t _ => rl - (intOf t).toNat)
      case atStart => exact ⟨0, by omega, rfl, HBi⟩
      case round =>
        obtain ⟨j, hj, rfl, HBj⟩ := hrel
        clear HBi a0 a1 a2 a3 a4 a5 b0 b1 b2 b3 b4 b5
        obtain ⟨w2, hw2⟩ : ∃ x, x = wr := ⟨_, rfl⟩
        subst hw2
        obtain ⟨⟨a0, a1, a2, a3, a4, a5⟩, _⟩ := blk6 (HPW.out _ HBj.out)
        obtain ⟨⟨b0, b1, b2, b3, b4, b5⟩, _⟩ := blk6 (HQW.out _ HBj.out)
        by_cases hlt2 : j < rl
        case neg =>
          have HBE : Hid (Below w.heap.size w w2) := HBW.out _ HBj.out
          go_wp2_with fail
          go_ret
          exact ⟨rfl, HBE.out⟩
        case pos =>
          obtain ⟨r, b, off, x, lx, cx, hr, rfl, hb, _, c0, hrow⟩ := (HA.out _ HBj.out).2.rs hlt2
          obtain ⟨r', b', off', x', lx', cx', hr', rfl, hb', _, c0', hrow'⟩ := (HA'.out _ HBj.out).2.rs hlt2
          have hrr := hr.symm.trans hr'
          simp only [Option.some.injEq] at hrr
          subst hrr
          obtain rfl : lx = lx' := by rw [← hrow.len_eq, ← hrow'.len_eq]
          have HROW : Hid (Sees 2 F (VVs F w2) w2 x lx cx r) := hrow
          have HROW' : Hid (Sees 2 F' (VVs F' w2) w2 x' lx cx' r) := hrow'
          have hlm : lx ≤ maxLen := by have := hrow.max; omega
          unfold maxLen at hlm
          have HC : Hid (w2.cell? ⟨b, off + j, none⟩ = some (.slice x lx cx) ∧ w2.cell? ⟨b', off' + j, none⟩ = some (.slice x' lx cx')) := ⟨c0, c0'⟩
          have HBB : Hid (b < w2.heap.size ∧ b' < w2.heap.size) := ⟨hb, hb'⟩
          clear hr hr' hrow hrow' hb hb'
          go_upto_region 12 with fail
          go_quiet (fail)
          clear a0 a1 a2 a3 a4 a5 b0 b1 b2 b3 b4 b5 c0 c0'
          go_wp2_with fail
          go_loopw [8] (fun t wr => ∃ l : Nat, l ≤ lx ∧ t = .int .i64 l ∧ Hid (Below w2.heap.size w2 wr)) (fun t _ => lx - (intOf t).toNat)
          case atStart => exact ⟨0, by omega, rfl, below_drewN (Below.refl _ _) _⟩
          case round =>
            obtain ⟨l, hl, rfl, HBl⟩ := hrel
            obtain ⟨w3, hw3⟩ : ∃ x, x = wr := ⟨_, rfl⟩
            subst hw3
            have HB3 : Hid (Below g w0 w3) := HBj.out.trans (HBl.out.mono (by rw [← HGE.out]; exact HBj.out.size))
            obtain ⟨⟨a0, a1, a2, a3, a4, a5⟩, _⟩ := blk6 (HPW.out _ HB3.out)
            obtain ⟨⟨b0, b1, b2, b3, b4, b5⟩, _⟩ := blk6 (HQW.out _ HB3.out)
            have c0 : w3.cell? ⟨b, off + j, none⟩ = some (.slice x lx cx) := (HBl.out.cell (p := ⟨b, off + j, none⟩) HBB.out.1).trans HC.out.1
            have c0' : w3.cell? ⟨b', off' + j, none⟩ = some (.slice x' lx cx') := (HBl.out.cell (p := ⟨b', off' + j, none⟩) HBB.out.2).trans HC.out.2
            by_cases hlt3 : l < lx
            case neg =>
              go_wp2_with fail
              go_roundw
              case rel => exact ⟨j + 1, by omega, by go_num, HB3⟩
              case measure => simp [intOf]; omega
            case pos =>
              obtain ⟨V, vb, voff, hv, rfl, hvb, _, d0, d1⟩ := HROW.out.vs hlt3
              obtain ⟨V', vb', voff', hv', rfl, hvb', _, d0', d1'⟩ := HROW'.out.vs hlt3
              have hvv := hv.symm.trans hv'
              simp only [Option.some.injEq] at hvv
              subst hvv
              obtain ⟨v1, v2⟩ := V
              have e0 : w3.cell? ⟨vb, voff + l * 2, none⟩ = some (.int .i64 v1) := (HBl.out.cell (p := ⟨vb, voff + l * 2, none⟩) hvb).trans d0
              have e1 : w3.cell? ⟨vb, voff + l * 2 + 1, none⟩ = some (.string v2) := (HBl.out.cell (p := ⟨vb, voff + l * 2 + 1, none⟩) hvb).trans d1
              have e0' : w3.cell? ⟨vb', voff' + l * 2, none⟩ = some (.int .i64 v1) := (HBl.out.cell (p := ⟨vb', voff' + l * 2, none⟩) hvb').trans d0'
              have e1' : w3.cell? ⟨vb', voff' + l * 2 + 1, none⟩ = some (.string v2) := (HBl.out.cell (p := ⟨vb', voff' + l * 2 + 1, none⟩) hvb').trans d1'
              have q1 : (v1 == v1) = true := by simp
              have q2 : (v2.toList == v2.toList) = true := by simp
              clear hv hv' d0 d1 d0' d1' hvb hvb'
              go_upto_region 17 with fail
              go_quiet (fail)
              clear a0 a1 a2 a3 a4 a5 b0 b1 b2 b3 b4 b5 c0 c0' e0 e1 e0' e1'
              go_wp2_with fail
              go_roundw
              case rel => exact ⟨l + 1, by omega, by go_num, below_drewN HBl.out _⟩
              case measure => simp [intOf]; omega
end Go.Proofs.YtnapeecmlkkolaaDoor
