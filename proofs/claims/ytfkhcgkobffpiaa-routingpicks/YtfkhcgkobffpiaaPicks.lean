/-
  RoutingPicks walked: it answers true, and turns nothing that was there.
-/
import Derived.Test.YtfkhcgkobffpiaaAw
import Derived.Deep.RegionWith
namespace Go.Proofs.Ytfkhcgkobffpiaa
open Go.RowKit
set_option maxRecDepth 100000
set_option linter.unusedVariables false
set_option linter.unusedSimpArgs false

/-- What was picked, the first i turned since. -/
structure PkS (w1 w2 W : World) (ps : List Pb) (i : Nat) : Prop where
  old : Below w1.heap.size w1 W
  kept : Kept (fun q => ∃ j, j < i ∧ (ps.getD j default).1 = some q) w2 W

/-- The i-th of what was picked, as it lies. -/
theorem PkS.item {w1 w2 W : World} {ps : List Pb} {i : Nat} (h : PkS w1 w2 W ps i) {x : Option Addr} {n c : Nat} {F : Nat → Prop} (ho : Own 24 1 VO w2 F (.slice x n c) ps) (hap : Apart ps) (hi : i < ps.length) :
    ∃ g a cp, x = some ⟨g, 0, none⟩ ∧ g < w2.heap.size ∧ (ps.getD i default).1 ≠ some g ∧ W.cell? ⟨g, i, none⟩ = some (.slice a (ps.getD i default).2.length cp) ∧ OwnB W 0 (.slice a (ps.getD i default).2.length cp) (ps.getD i default).2.length (ps.getD i default).2 ∧ Bs (ps.getD i default).2 ∧
      (Value.slice a (ps.getD i default).2.length cp).ownBlock = (ps.getD i default).1 ∧ cp ≤ 9223372036854775807 ∧ (ps.getD i default).2.length ≤ cp := by
  have hob := own_blocks ho
  obtain ⟨cs, hr, hF, h1, hc⟩ := ho
  have hx : ∃ g, x = some ⟨g, 0, none⟩ := by
    rcases hr.2 with ⟨_, h0⟩ | ⟨g, cap, cur, e, _⟩
    · omega
    · simp only [Value.slice.injEq] at e
      exact ⟨g, e.1⟩
  obtain ⟨g, rfl⟩ := hx
  have hg2 : g < w2.heap.size := own_block_lt hr g rfl
  obtain ⟨hv1, hv2, hv3⟩ := (hc i hi).1
  have hgn : ∀ j, j < ps.length → (ps.getD j default).1 ≠ some g := fun j hj e => by
    have := (hob j g hj e).2.2
    exact this rfl
  have hrow := hr.cells (g := g) rfl (i * 1 + 0) (cs.getD (i * 1 + 0) default) (by rw [List.getD_eq_getElem?_getD, List.getElem?_eq_getElem (by have := hr.1; omega)]; rfl)
  have hplain : (⟨g, 0, none⟩ : Addr).add (i * 1 + 0) = ⟨g, i, none⟩ := by unfold Addr.add; split <;> simp_all
  rw [hplain] at hrow
  obtain ⟨a, cp, e, hI, _⟩ := hv2.isB0 hv3
  have e' : cs.getD (i * 1 + 0) default = .slice a (ps.getD i default).2.length cp := e
  rw [e'] at hrow
  simp only [Nat.mul_one, Nat.add_zero] at hv1 hv2 e e'
  rw [e] at hv1 hv2
  refine ⟨g, a, cp, rfl, hg2, hgn i hi, ?_, ?_, hv3, hv1, hI.2.2.1, hI.2.1⟩
  · rw [h.kept.cell (p := ⟨g, i, none⟩) hg2 (fun ⟨j, hj, ej⟩ => hgn j (by omega) ej)]
    exact hrow
  · refine ownsRow_kept hv2 h.kept (fun q hq ⟨j, hj, ej⟩ => ?_)
    rw [hv1] at hq
    exact hap j i q hj hi ej hq

/-- Bytes that may be turned, one by one. -/
def Soft (W : World) (a : Option Addr) (l : Nat) : Prop := ∀ k, k < l → ∃ g z, a = some ⟨g, 0, none⟩ ∧ W.cell? ⟨g, k, none⟩ = some (.int .u8 z) ∧ W.frozen? ⟨g, k, none⟩ = false

theorem OwnB.soft {W : World} {a : Option Addr} {l cp : Nat} {X : List Int} (h : OwnB W 0 (.slice a l cp) l X) : Soft W a l := by
  intro k hk
  have hl := h.len
  rcases h.2 with ⟨_, h0⟩ | ⟨g, cap, cur, e, hg, hh, hnc, hm, hs, htake⟩
  · omega
  · simp only [Value.slice.injEq] at e
    refine ⟨g, X.getD k 0, e.1, ?_, ?_⟩
    · rw [World.ownsRow.cellAt (by rw [e.1] at h; exact h) k (by omega)]
      simp [show k < X.length by omega]
    · simp [World.frozen?, hh]

theorem Soft.set {W : World} {g : Nat} {l k : Nat} (h : Soft W (some ⟨g, 0, none⟩) l) (z : Int) : Soft (W.setCell ⟨g, k, none⟩ (.int .u8 z)) (some ⟨g, 0, none⟩) l := by
  intro j hj
  obtain ⟨g', z', e, hc, hf⟩ := h j hj
  cases e
  by_cases hjk : j = k
  · subst hjk
    exact ⟨g, z, rfl, World.cell?_setCell_same _ _ _ hc, by rw [World.frozen?_setCell]; exact hf⟩
  · exact ⟨g, z', rfl, (World.cell?_setCell_other _ ⟨g, k, none⟩ ⟨g, j, none⟩ _ (fun e => by cases e; exact hjk rfl)).trans hc, by rw [World.frozen?_setCell]; exact hf⟩

theorem Soft.old {W W' : World} {a : Option Addr} {l : Nat} (h : Soft W a l) (hB : Below W.heap.size W W') : Soft W' a l := by
  intro k hk
  obtain ⟨g, z, e, hc, hf⟩ := h k hk
  have hlt := block_lt_of_cell hc
  exact ⟨g, z, e, (hB.cell (p := ⟨g, k, none⟩) hlt).trans hc, (hB.frozen (p := ⟨g, k, none⟩) hlt).trans hf⟩

set_option maxHeartbeats 400000 in
theorem picks_pass (a : Option Addr) (la ca : Nat) (b : Option Addr) (lb cb : Nat) (w : World) (h1 : la ≤ 9223372036854775807) (h2 : lb ≤ 9223372036854775807) (h : 50 < la ∨ (la ≤ 50 ∧ 50 < lb)) :
    Calls Try.prog 6 #[.slice a la ca, .slice b lb cb] w fun e w' => e = .returned (.bool true) ∧ Below w.heap.size w w' := by
  rcases h with h | ⟨h3, h⟩
  · go_enter Try.func6, Try.ntmps6
    go_wp2_with (go_at_call 9; refine (awake_any _).mono ?_; rintro e w1 ⟨rfl, hB1⟩)
    go_ret
    exact ⟨rfl, hB1⟩
  · have d1 : decide ((50 : Int) < la) = false := by simp; omega
    go_enter Try.func6, Try.ntmps6
    go_wp2_with (go_at_call 9; refine (awake_any _).mono ?_; rintro e w1 ⟨rfl, hB1⟩)
    go_ret
    exact ⟨rfl, hB1⟩

set_option maxHeartbeats 8000000 in
theorem picks_walk (a : Option Addr) (la ca : Nat) (ns : List Int) (b : Option Addr) (lb cb : Nat) (vs : List (Int × List Int)) (w : World) (ha : View 1 VU w a la ca ns) (hn : ∀ n ∈ ns, 0 ≤ n ∧ n ≤ 65535) (hb : View 2 VV w b lb cb vs)
    (hx : ∀ x ∈ vs, x.2.length ≤ 140737488355328) (h1 : la ≤ 50) (h2 : lb ≤ 50) :
    Calls Try.prog 6 #[.slice a la ca, .slice b lb cb] w fun e w' => e = .returned (.bool true) ∧ Below w.heap.size w w' := by
  have HA : Hid (View 1 VU w a la ca ns) := ha
  have HB : Hid (View 2 VV w b lb cb vs) := hb
  have HLA : Hid (ns.length = la) := ha.1
  have HLB : Hid (vs.length = lb) := hb.1
  have hca : la ≤ ca := ha.2.1
  have hcam : ca ≤ 9223372036854775807 := ha.2.2.1
  have hcb : lb ≤ cb := hb.2.1
  have hcbm : cb ≤ 9223372036854775807 := hb.2.2.1
  have HNN : Hid (∀ n ∈ ns, 0 ≤ n ∧ n ≤ 65535) := hn
  have HXX : Hid (∀ x ∈ vs, x.2.length ≤ 140737488355328) := hx
  have HN : Hid (∀ k, k < la → 0 ≤ ns.getD k default ∧ ns.getD k default ≤ 65535) := fun k hk => by
    rw [List.getD_eq_getElem?_getD, List.getElem?_eq_getElem (by rw [HLA.out]; exact hk)]
    exact hn _ (List.getElem_mem _)
  have d1 : decide ((50 : Int) < la) = false := by simp; omega
  have d2 : decide ((50 : Int) < lb) = false := by simp; omega
  obtain ⟨Y, hY⟩ : ∃ Y, Y = pickR vs ns [] := ⟨_, rfl⟩
  have HY : Hid (Y = pickR vs ns []) := hY
  clear ha hb hn hx hY
  go_enter Try.func6, Try.ntmps6
  go_wp2_with (go_at_call 9; refine (awake_any _).mono ?_; rintro e w1 ⟨rfl, hB1⟩)
  have HA1 : Hid (View 1 VU w1 a la ca ns) := HA.out.old stays_u hB1
  have HB1 : Hid (View 2 VV w1 b lb cb vs) := HB.out.old stays_v hB1
  refine (pick_any HA1.out HB1.out (by omega) (by omega) HNN.out HXX.out HY.out).mono ?_
  rintro e w2 ⟨v2, ps, rfl, HO2, HPS, hB2⟩
  obtain ⟨x2, n2, c2, rfl⟩ := HO2.out.shape
  have hn2 : n2 = ps.length := by
    obtain ⟨x, c, e, _⟩ := HO2.out.view
    simp only [Value.slice.injEq] at e
    exact e.2.1
  have HN2 : Hid (n2 = ps.length) := hn2
  have hcc : n2 ≤ c2 ∧ c2 ≤ 9223372036854775807 := by
    obtain ⟨x, c, e, hv, _⟩ := HO2.out.view
    simp only [Value.slice.injEq] at e
    have h1 := hv.2.1
    have h2 := hv.2.2.1
    rw [← e.2.2] at h1 h2
    rw [hn2]
    exact ⟨h1, h2⟩
  have hcc1 := hcc.1
  have hcc2 := hcc.2
  have HA2 : Hid (View 1 VU w2 a la ca ns) := HA1.out.old stays_u hB2
  have HB2 : Hid (View 2 VV w2 b lb cb vs) := HB1.out.old stays_v hB2
  have HBW : Hid (Below w1.heap.size w1 w2) := hB2
  have hB02 : Below w.heap.size w w2 := hB1.trans (hB2.mono hB1.size)
  obtain ⟨E, hE⟩ : ∃ E, E = Y.1 := ⟨_, rfl⟩
  have HE : Hid (E = Y.1) := hE
  rw [← hE]
  clear hn2 hcc hB2 hE
  go_wp2_with fail
  go_loopw [8] (fun i wr => ∃ k : Nat, k ≤ la ∧ i = .int .i64 k ∧ wr = w2 ∧ Hid (∀ j, j < k → (ns.getD j default).toNat < vs.length ∧ (vs.getD (ns.getD j default).toNat default).1 = 2)) (fun i _ => la - (intOf i).toNat)
  case atStart => exact ⟨0, by omega, rfl, rfl, fun j hj => by omega⟩
  case round =>
    obtain ⟨k, hk, rfl, rfl, HJ⟩ := hrel
    by_cases hlt : k < la
    · obtain ⟨g, off, hg, hgs, hc⟩ := HA2.out.u16 hlt
      subst hg
      obtain ⟨m, hm⟩ := Int.eq_ofNat_of_zero_le (HN.out k hlt).1
      have hm2 := (HN.out k hlt).2
      rw [hm] at hc hm2
      have HM : Hid (ns.getD k default = m) := hm
      have hwm : IntKind.i64.wrap (m : Int) = m := by rw [IntKind.wrap_i64]; omega
      have HBAD : Hid (¬ (m < vs.length ∧ (vs.getD m default).1 = 2) → E = 1 ∧ n2 = 0) := by
        intro hbad
        have hy : Y = (1, []) := by
          rw [HY.out]
          refine pickR_bad vs ns [] ⟨ns.getD k default, ?_, by rw [HM.out, Int.toNat_natCast]; exact hbad⟩
          rw [List.getD_eq_getElem?_getD, List.getElem?_eq_getElem (by rw [HLA.out]; exact hlt)]
          exact List.getElem_mem _
        refine ⟨by rw [HE.out, hy], ?_⟩
        have := congrArg List.length HPS.out.1
        rw [hy] at this
        rw [HN2.out]
        simpa using this
      clear hm
      by_cases hmv : m < lb
      · obtain ⟨b2, off2, a', l, cp, hvb, hb2, hk0, hs0, hI, hl', hlc, hcm'⟩ := HB2.out.val hmv
        subst hvb
        obtain ⟨K, hK⟩ : ∃ K, K = (vs.getD m default).1 := ⟨_, rfl⟩
        rw [← hK] at hk0
        have hml : decide ((lb : Int) ≤ m) = false := by simp; omega
        clear hs0 hI hl'
        by_cases hK2 : K = 2
        · have HJ2 : Hid (∀ j, j < k + 1 → (ns.getD j default).toNat < vs.length ∧ (vs.getD (ns.getD j default).toNat default).1 = 2) := fun j hj => by
            by_cases e : j = k
            · subst e; rw [HM.out, Int.toNat_natCast, HLB.out, ← hK]; exact ⟨hmv, hK2⟩
            · exact HJ.out j (by omega)
          subst hK2
          clear hK
          go_wp2_with fail
          go_roundw
          case rel => exact ⟨k + 1, by omega, by go_num, trivial, HJ2⟩
          case measure => simp [intOf]; omega
        · have hK0 : (K != 2) = true := by simpa using hK2
          obtain ⟨hE1, hE2⟩ := HBAD.out (by rw [← hK]; exact fun e => hK2 e.2)
          subst hE1 hE2
          clear hK
          go_wp2_with fail
          go_ret
          exact ⟨rfl, hB02⟩
      · obtain ⟨hE1, hE2⟩ := HBAD.out (by rw [HLB.out]; exact fun e => hmv e.1)
        have hml : (lb : Int) ≤ m := by omega
        subst hE1 hE2
        go_wp2_with fail
        go_ret
        exact ⟨rfl, hB02⟩
    · obtain rfl : k = la := by omega
      have hgood : ∀ n ∈ ns, n.toNat < vs.length ∧ (vs.getD n.toNat default).1 = 2 := fun n hn => by
        obtain ⟨i, hi, rfl⟩ := List.mem_iff_getElem.1 hn
        have := HJ.out i (by rw [← HLA.out]; exact hi)
        rwa [List.getD_eq_getElem?_getD (l := ns), List.getElem?_eq_getElem hi, Option.getD_some] at this
      have hY0 := pickR_all vs ns [] hgood
      rw [List.nil_append] at hY0
      have hpl : ps.length = k := by
        have := congrArg List.length HPS.out.1
        rw [HY.out, hY0, List.length_map, List.length_map, HLA.out] at this
        exact this
      have HPI : Hid (∀ i, i < k → (ps.getD i default).2 = (vs.getD (ns.getD i default).toNat default).2) := fun i hi => by
        have h0 := HPS.out.1
        rw [HY.out, hY0] at h0
        have h1 : (ps.map Prod.snd)[i]? = (ns.map fun n => (vs.getD n.toNat default).2)[i]? := by rw [h0]
        rw [List.getElem?_map, List.getElem?_map, List.getElem?_eq_getElem (by rw [hpl]; exact hi), List.getElem?_eq_getElem (by rw [HLA.out]; exact hi)] at h1
        rw [List.getD_eq_getElem?_getD, List.getElem?_eq_getElem (by rw [hpl]; exact hi), List.getD_eq_getElem?_getD (l := ns), List.getElem?_eq_getElem (by rw [HLA.out]; exact hi)]
        simpa using h1
      obtain rfl : n2 = k := by rw [HN2.out, hpl]
      have HPL : Hid (ps.length = n2) := hpl
      have HGD : Hid (∀ i, i < n2 → (ns.getD i default).toNat < lb) := fun i hi => by rw [← HLB.out]; exact (HJ.out i hi).1
      have hE0 : E = 0 := by rw [HE.out, HY.out, hY0]
      subst hE0
      clear hgood hY0 hpl HJ
      obtain ⟨wz, hwz⟩ : ∃ wz, wz = wr := ⟨_, rfl⟩
      subst hwz
      go_wp2_with fail
      go_loopw [9] (fun iv wq => ∃ i : Nat, i ≤ n2 ∧ iv = .int .i64 i ∧ Hid (PkS w1 wz wq ps i)) (fun iv _ => n2 - (intOf iv).toNat)
      case atStart => exact ⟨0, by omega, rfl, HBW.out, Kept.refl _ _⟩
      case round =>
        obtain ⟨i, hi, rfl, HS⟩ := hrel
        by_cases hlt2 : i < n2
        · obtain ⟨gx, ai, ci, hgx, hgx2, hgxn, hcx, hox, hbx, hobx, hcim, hcil⟩ := HS.out.item HO2.out HPS.out.2 (by rw [HPL.out]; exact hlt2)
          subst hgx
          obtain ⟨X, hX⟩ : ∃ X, X = (ps.getD i default).2 := ⟨_, rfl⟩
          obtain ⟨Q, hQ⟩ : ∃ Q, Q = (ps.getD i default).1 := ⟨_, rfl⟩
          rw [← hX] at hcx hox hbx hobx hcil
          rw [← hQ] at hgxn hobx
          have HX : Hid (X = (ps.getD i default).2) := hX
          have HQ : Hid (Q = (ps.getD i default).1) := hQ
          obtain ⟨g, off, hg, hgs, hc0⟩ := HA1.out.u16 hlt2
          obtain ⟨m, hm⟩ := Int.eq_ofNat_of_zero_le (HN.out i hlt2).1
          have hmv := HGD.out i hlt2
          have hpi := HPI.out i hlt2
          rw [hm, Int.toNat_natCast] at hmv hpi
          rw [hm] at hc0
          rw [← hX] at hpi
          obtain ⟨b2, off2, a', l, cp, hvb, hb2, hk0, hs0, hI, hl', hlc, hcm'⟩ := HB1.out.val hmv
          rw [← hpi] at hI hl'
          obtain ⟨K, hK⟩ : ∃ K, K = (vs.getD m default).1 := ⟨_, rfl⟩
          rw [← hK] at hk0
          have hc : wr.cell? ⟨g, off + i, none⟩ = some (.int .u16 m) := (HS.out.old.cell (p := ⟨g, off + i, none⟩) hgs).trans hc0
          have hk1 : wr.cell? ⟨b2, off2 + m * 2, none⟩ = some (.int .i64 K) := (HS.out.old.cell (p := ⟨b2, off2 + m * 2, none⟩) hb2).trans hk0
          have hs1 : wr.cell? ⟨b2, off2 + m * 2 + 1, none⟩ = some (.slice a' l cp) := (HS.out.old.cell (p := ⟨b2, off2 + m * 2 + 1, none⟩) hb2).trans hs0
          obtain ⟨S, hS⟩ : ∃ S, S = strOfNums X := ⟨_, rfl⟩
          have HCV : Hid (∀ W, Below w1.heap.size w1 W → (convert 24 9 (.slice a' l cp)).run Try.prog W = .ok (.string S) W) := fun W hW => by rw [hS]; exact (hI.old hW).conv
          obtain ⟨w5, hw5⟩ : ∃ w5, w5 = wr.alloc (.cells #[.int .i64 K, .slice a' l cp] 47) := ⟨_, rfl⟩
          have hB5 : Below wr.heap.size wr w5 := by rw [hw5]; exact below_one wr _
          have HB5 : Hid (Below wr.heap.size wr w5) := hB5
          have hB15 : Below w1.heap.size w1 w5 := HS.out.old.trans (hB5.mono HS.out.old.size)
          have HB15 : Hid (Below w1.heap.size w1 w5) := hB15
          have hp5 : w5.heap[wr.heap.size]? = some (.cells #[.int .i64 K, .slice a' l cp] 47 (0, 0)) := by rw [hw5]; exact heap_alloc_new wr _
          have HP5 : Hid (w5.heap[wr.heap.size]? = some (.cells #[.int .i64 K, .slice a' l cp] 47 (0, 0))) := hp5
          have hcv1 := HCV.out w5 hB15
          have hox5 := hox.old hB5
          have hcv2 : (convert 24 9 (.slice ai X.length ci)).run Try.prog w5 = .ok (.string S) w5 := by
            obtain ⟨x, c, e, hI2, _⟩ := hox5.isB0 hbx
            simp only [Value.slice.injEq] at e
            rw [e.1, e.2.2, hS]
            exact hI2.conv
          have hgxw : gx < wr.heap.size := Nat.lt_of_lt_of_le hgx2 HS.out.kept.size
          have hcx5 : w5.cell? ⟨gx, i, none⟩ = some (.slice ai X.length ci) := (hB5.cell (p := ⟨gx, i, none⟩) hgxw).trans hcx
          have hpc : w5.cell? ⟨wr.heap.size, 1, none⟩ = some (.slice a' l cp) := by simp [World.cell?, hp5]
          have HSF : Hid (Soft w5 ai X.length) := hox5.soft
          have HQB : Hid (∀ q, Q = some q → w1.heap.size ≤ q ∧ q < wr.heap.size) := fun q e => by
            have h0 := own_blocks HO2.out i q (by rw [HPL.out]; exact hlt2) (by rw [← HQ.out]; exact e)
            exact ⟨h0.2.1, Nat.lt_of_lt_of_le h0.1 HS.out.kept.size⟩
          have HQA : Hid (∀ g', ai = some ⟨g', 0, none⟩ → Q = some g') := fun g' e => by rw [← hobx, e]; rfl
          obtain ⟨L, hL⟩ : ∃ L, L = X.length := ⟨_, rfl⟩
          rw [← hL] at hcx hcx5 hcv2 hcil HSF
          subst hg hvb
          clear hS hI hl' hpi hX hQ hK hm hc0 hk0 hs0 hox hbx hobx hox5 hB5 hB15 hp5 hL
          obtain ⟨wo, hwo⟩ : ∃ wo, wo = wr := ⟨_, rfl⟩
          subst hwo
          go_upto_region 18 with fail
          rw [← hw5]
          clear hw5
          go_wp2_with fail
          go_loopw [12] (fun kv wq => ∃ k : Nat, k ≤ L ∧ kv = .int .i64 k ∧ Hid (Soft wq ai L ∧ Kept (fun q => Q = some q) w5 wq)) (fun kv _ => L - (intOf kv).toNat)
          case atStart => exact ⟨0, by omega, rfl, HSF.out, Kept.refl _ _⟩
          case round =>
            obtain ⟨k, hk, rfl, HK⟩ := hrel
            have hgx5 : gx < w5.heap.size := Nat.lt_of_lt_of_le hgxw HB5.out.size
            have hcx6 : wr.cell? ⟨gx, i, none⟩ = some (.slice ai L ci) := (HK.out.2.cell (p := ⟨gx, i, none⟩) hgx5 hgxn).trans hcx5
            by_cases hlt3 : k < L
            · obtain ⟨gi, z, hai, hcz, hfz⟩ := HK.out.1 k hlt3
              subst hai
              have hQg := HQA.out gi rfl
              clear hcx5 hcv1 hcv2 hpc hcx hc hk1 hs1
              go_wp2_with fail
              go_region_with (fail)
              all_goals
                go_wp2_with fail
                go_roundw
                case rel => exact ⟨k + 1, by omega, by go_num, (HK.out.1.set _).old (Below.refl _ _).drew, (HK.out.2.setCell (p := ⟨gi, k, none⟩) (fun _ => hQg) _).new (Below.refl _ _).drew⟩
                case measure => simp [intOf]; omega
            · obtain rfl : k = L := by omega
              have hB6 : Below w1.heap.size w1 wr := HB15.out.trans (HK.out.2.below HB15.out.size (fun q _ e => (HQB.out q e).1))
              have hcv6 := HCV.out wr hB6
              have hpp : wr.cell? ⟨wo.heap.size, 1, none⟩ = some (.slice a' l cp) := (HK.out.2.cell (p := ⟨wo.heap.size, 1, none⟩) (block_lt HP5.out) (fun e => by have := (HQB.out wo.heap.size e).2; omega)).trans hpc
              clear hcx5 hcv1 hcv2 hpc hcx hc hk1 hs1
              go_wp2_with fail
              go_roundw
              case rel =>
                refine ⟨i + 1, by omega, by go_num, hB6, (HS.out.kept.wide (fun q _ ⟨j, hj, e⟩ => ⟨j, by omega, e⟩)).trans ((kept_of HB5.out).trans HK.out.2 (fun q _ e => e)) (fun q hq e => ?_)⟩
                exact ⟨i, by omega, by rw [← HQ.out]; exact e⟩
              case measure => simp [intOf]; omega
        · go_wp2_with fail
          go_ret
          exact ⟨rfl, hB1.trans (HS.out.old.mono hB1.size)⟩

theorem picks_any (a : Option Addr) (la ca : Nat) (ns : List Int) (b : Option Addr) (lb cb : Nat) (vs : List (Int × List Int)) (w : World) (ha : View 1 VU w a la ca ns) (hn : ∀ n ∈ ns, 0 ≤ n ∧ n ≤ 65535) (hb : View 2 VV w b lb cb vs)
    (hx : ∀ x ∈ vs, x.2.length ≤ 140737488355328) :
    Calls Try.prog 6 #[.slice a la ca, .slice b lb cb] w fun e w' => e = .returned (.bool true) ∧ Below w.heap.size w w' := by
  have h1 : la ≤ 9223372036854775807 := Nat.le_trans ha.2.1 ha.2.2.1
  have h2 : lb ≤ 9223372036854775807 := Nat.le_trans hb.2.1 hb.2.2.1
  by_cases h : la ≤ 50 ∧ lb ≤ 50
  · exact picks_walk a la ca ns b lb cb vs w ha hn hb hx h.1 h.2
  · exact picks_pass a la ca b lb cb w h1 h2 (by omega)
end Go.Proofs.Ytfkhcgkobffpiaa
