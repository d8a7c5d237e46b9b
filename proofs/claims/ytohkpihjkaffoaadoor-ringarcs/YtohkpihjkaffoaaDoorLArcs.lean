/-
  RingArcs: the walk.
-/
import Derived.Test.YtohkpihjkaffoaaDoorNw
import Derived.Test.YtohkpihjkaffoaaDoorLReads
import Derived.Test.YtohkpihjkaffoaaDoorOp
import Derived.RegionTactic
import Derived.Deep.RegionHeld3
namespace Go.Proofs.YtohkpihjkaffoaaDoor
open Go.RowKit Go.Lib
set_option maxRecDepth 100000
set_option linter.unusedVariables false
set_option linter.unusedSimpArgs false

theorem View.num {w : World} {a : Option Addr} {len cap : Nat} {ss : List Int} (h : View 1 VI w a len cap ss) {k : Nat} (hk : k < len) : ∃ b off, a = some ⟨b, off, none⟩ ∧ b < w.heap.size ∧ w.cell? ⟨b, off + k, none⟩ = some (.int .i64 (ss.getD k default)) := by
  obtain ⟨h1, h2, h3, h4, h5⟩ := h
  obtain ⟨b, off, ha, hb, hc⟩ := h5 (by omega)
  obtain ⟨c, hcell, hv⟩ := hc k hk
  have := hcell 0 (by omega)
  rw [hv] at this
  exact ⟨b, off, ha, hb, by simpa using this⟩

/-- All letters, the small ones first. -/
abbrev alphB : ByteArray := ⟨#[97, 98, 99, 100, 101, 102, 103, 104, 105, 106, 107, 108, 109, 110, 111, 112, 113, 114, 115, 116, 117, 118, 119, 120, 121, 122, 65, 66, 67, 68, 69, 70, 71, 72, 73, 74, 75, 76, 77, 78, 79, 80, 81, 82, 83, 84, 85, 86, 87, 88, 89, 90]⟩
def I64 (n : Int) : Prop := -9223372036854775808 ≤ n ∧ n ≤ 9223372036854775807

theorem arcs_pass (hA : Awake) {w : World} {a : Option Addr} {len cap : Nat} (hl : 40 < len) (hm : len ≤ 9223372036854775807) (t u : Int) :
    Calls Tryd.prog 6 #[.slice a len cap, .int .u64 t, .int .u64 u] w fun e w' => e = .returned (.bool true) ∧ Below w.heap.size w w' := by
  have HA : Hid (Calls Tryd.prog 8 #[] w fun e w' => e = .returned (.bool true) ∧ Below w.heap.size w w') := hA w
  clear hA
  go_enter Tryd.func6, Tryd.ntmps6
  go_wp2_with (go_at_call 8; refine Calls.mono HA.out ?_; rintro e w1 ⟨rfl, hB⟩; have HB1 : Hid (Below w.heap.size w w1) := hB; clear hB)
  go_ret
  exact ⟨rfl, HB1.out⟩

/-- The wrapped reckoning between two tokens. -/
theorem arc_span {a b : Int} (ha : I64 a) (hb : I64 b) (h : a < b) : IntKind.u64.wrap (IntKind.u64.wrap b - IntKind.u64.wrap a) = b - a := by
  unfold I64 at ha hb
  simp only [IntKind.wrap, IntKind.signed, IntKind.bits]
  simp
  omega
theorem arc_tok {a b r : Int} (ha : I64 a) (hb : I64 b) (h0 : 0 ≤ r) (h1 : r < b - a) : IntKind.i64.wrap (IntKind.u64.wrap (IntKind.u64.wrap (IntKind.u64.wrap a + 1) + r)) = a + 1 + r := by
  unfold I64 at ha hb
  simp only [IntKind.wrap, IntKind.signed, IntKind.bits]
  simp
  omega

set_option maxHeartbeats 800000 in
theorem arcs_walk (hA : Awake) {w : World} {a : Option Addr} {len cap : Nat} {ns : List Int} (h : View 1 VI w a len cap ns) (hl : len ≤ 40) (hn : ∀ n ∈ ns, I64 n) {A F : Nat} (hA1 : A < 18446744073709551616) (hF1 : F < 18446744073709551616) :
    Calls Tryd.prog 6 #[.slice a len cap, .int .u64 (A : Int), .int .u64 (F : Int)] w fun e w' => e = .returned (.bool true) ∧ Below w.heap.size w w' := by
  have HA : Hid (Calls Tryd.prog 8 #[] w fun e w' => e = .returned (.bool true) ∧ Below w.heap.size w w') := hA w
  have HV : Hid (View 1 VI w a len cap ns) := h
  have HL : Hid (ns.length = len) := h.1
  have HN : Hid (∀ n ∈ ns, I64 n) := hn
  have hc1 := h.2.1
  have hc2 : cap ≤ 9223372036854775807 := h.2.2.1
  have hl2 : ¬ 40 < len := by omega
  clear h hA hn
  go_enter Tryd.func6, Tryd.ntmps6
  go_wp2_with (go_at_call 8; refine Calls.mono HA.out ?_; rintro e w1 ⟨rfl, hB⟩; have HB1 : Hid (Below w.heap.size w w1) := hB; clear hB)
  go_loopw [8, 9] (fun v i wr => ∃ (k : Nat), k ≤ len ∧ i = .int .i64 k ∧ (∃ x n c, v = .slice x n c) ∧ (∃ zs : List Pl, Hid (zs.length = k ∧ (∀ p ∈ zs, I64 p.1) ∧ Own 46 2 VP wr (fun k => w.heap.size ≤ k) v zs)) ∧ Below w.heap.size w wr) (fun _ i _ => len - (intOf i).toNat)
  case atStart => exact ⟨0, by omega, rfl, ⟨_, _, _, rfl⟩, ⟨[], rfl, (fun p hp => by cases hp), own_nil _ _ _ _ _⟩, HB1.out⟩
  case round =>
    obtain ⟨k, hk, rfl, ⟨xv, nv, cv, rfl⟩, ⟨zs, HO⟩, hB⟩ := hrel
    by_cases hlt : k < len
    · obtain ⟨b, off, ha, hb, c0⟩ := HV.out.num hlt
      subst ha
      obtain ⟨t, ht⟩ : ∃ t, t = ns.getD k default := ⟨_, rfl⟩
      have HT : Hid (I64 t) := HN.out t (by rw [ht]; exact getD_mem (by rw [HL.out]; exact hlt))
      rw [← ht] at c0
      obtain ⟨s, hs⟩ : ∃ s, s = alphB.extract k (k + 1) := ⟨_, rfl⟩
      have d0 : wr.cell? ⟨b, off + k, none⟩ = some (.int .i64 t) := (hB.cell (p := ⟨b, off + k, none⟩) hb).trans c0
      have hbs := hB.size
      have hk0 : (0 : Int) ≤ (k : Int) := by omega
      have hk1 : (k : Int) < (len : Int) := by omega
      have HO2 : Hid (Own 46 2 VP (wr.drew.alloc (.cells #[.int .i64 t, .string (alphB.extract k (k + 1))] 46)) (fun k => w.heap.size ≤ k) (.slice xv nv cv) zs) := HO.out.2.2.old stays_p ((Below.refl _ _).drew.alloc (Nat.le_refl _) _)
      have HBN : Hid ((wr.drew.alloc (.cells #[.int .i64 t, .string (alphB.extract k (k + 1))] 46)).heap[wr.heap.size]? = some (.cells [Value.int .i64 t, Value.string (alphB.extract k (k + 1))].toArray 46 (0, 0))) := heap_alloc_new wr.drew _
      have HM : Hid (zs.length + 1 ≤ maxLen ∧ (zs.length + 1) * 24 ≤ 140737488355328) := by
        show _ ∧ _
        rw [HO.out.1]
        unfold maxLen; omega
      have HC1 : Hid (∀ u ∈ [Value.int .i64 t, Value.string (alphB.extract k (k + 1))], u.oneCell' = true) := by
        intro u hu; simp at hu; rcases hu with rfl | rfl <;> rfl
      have HC2 : Hid (∀ j m, j < 2 → ([Value.int .i64 t, Value.string (alphB.extract k (k + 1))].getD j default).ownBlock = some m → m < (wr.drew.alloc (.cells #[.int .i64 t, .string (alphB.extract k (k + 1))] 46)).heap.size ∧ (Value.slice xv nv cv).ownBlock ≠ some m ∧ w.heap.size ≤ m) := by
        intro j m hj hk
        rcases (by omega : j = 0 ∨ j = 1) with rfl | rfl <;> simp [Value.ownBlock] at hk
      have HC3 : Hid (w.heap.size ≤ (wr.drew.alloc (.cells #[.int .i64 t, .string (alphB.extract k (k + 1))] 46)).heap.size) := by show _ ≤ _; simp; omega
      have HE0 : Hid (∀ w3, Kept (fun k => (Value.slice xv nv cv).ownBlock = some k) (wr.drew.alloc (.cells #[.int .i64 t, .string (alphB.extract k (k + 1))] 46)) w3 → w3.cell? ⟨b, off + k, none⟩ = some (.int .i64 t) ∧ Below w.heap.size w w3) := by
        intro w3 hK
        have hBd : Below w.heap.size w (wr.drew.alloc (.cells #[.int .i64 t, .string (alphB.extract k (k + 1))] 46)) := hB.drew.alloc (by simp; omega) _
        have hnb : ¬ (Value.slice xv nv cv).ownBlock = some b := fun e => by have := (HO.out.2.2.lt b e).1; omega
        have hb2 : b < (wr.drew.alloc (.cells #[.int .i64 t, .string (alphB.extract k (k + 1))] 46)).heap.size := by simp; omega
        exact ⟨(hK.cell (p := ⟨b, off + k, none⟩) hb2 hnb).trans ((hBd.cell (p := ⟨b, off + k, none⟩) hb).trans c0), hBd.trans (hK.below HC3.out (fun k _ e => (HO2.out.lt k e).1))⟩
      have HZN : Hid ((zs ++ [(t, alphB.extract k (k + 1))]).length = k + 1 ∧ ∀ p ∈ zs ++ [(t, alphB.extract k (k + 1))], I64 p.1) := by
        refine ⟨by rw [List.length_append, HO.out.1]; rfl, fun p hp => ?_⟩
        rcases List.mem_append.1 hp with hp | hp
        · exact HO.out.2.1 p hp
        · simp at hp; subst hp; exact HT.out
      have hk40 : k + 1 ≤ 52 := by omega
      have hk41 : ¬ 52 < k + 1 := by omega
      have hk42 : (k : Int) + 1 ≤ 52 := by omega
      have hk43 : ¬ (52 : Int) < (k : Int) + 1 := by omega
      have hk44 : IntKind.i64.wrap ((k : Int) + 1) = (k : Int) + 1 := by simp only [IntKind.wrap, IntKind.signed, IntKind.bits]; simp; omega
      have hk45 : (0 : Int) ≤ (k : Int) + 1 := by omega
      have hk46 : (k : Int) ≤ (k : Int) + 1 := by omega
      clear ht hs
      go_wp2_with fail
      go_region_held3 (fun W => W.cell? ⟨b, off + k, none⟩ = some (.int .i64 t)) (first | assumption | go_keep) (first
        | (refine step_append_item rfl (.tmp 34) (.tmp 44) 22 (by rfl) stays_p elem_p (by rfl) HO2.out (by rfl) HBN.out (by rfl) HC1.out (t, alphB.extract k (k + 1)) ⟨rfl, rfl⟩ HC2.out HC3.out HM.out.1 HM.out.2 ?_; intro v3 w3 ho3 hK3 hat3; obtain ⟨g0, hB3⟩ := HE0.out w3 hK3; have HO3 : Hid (Own 46 2 VP w3 (fun k => w.heap.size ≤ k) v3 (zs ++ [(t, alphB.extract k (k + 1))])) := ho3; obtain ⟨x4, n4, c4, rfl⟩ := ho3.shape; clear ho3 hK3 hat3))
      clear HO2 HBN HC1 HC2 HC3 HE0 HO
      go_wp2_with fail
      go_roundw
      case rel => exact ⟨k + 1, by omega, by go_num, ⟨_, _, _, rfl⟩, ⟨_, HZN.out.1, HZN.out.2, HO3.out⟩, hB3⟩
      case measure => simp [intOf]; omega
    · obtain rfl : k = len := by omega
      obtain ⟨x1, c1, hv1, hV1, _⟩ := HO.out.2.2.view
      obtain ⟨hzk, hz1, _⟩ := HO.out
      cases hv1
      subst hzk
      have HVz : Hid (View 2 VP wr xv zs.length cv zs) := hV1
      have HZ1 : Hid (∀ p ∈ zs, I64 p.1) := hz1
      have HBr : Hid (Below w.heap.size w wr) := hB
      obtain ⟨er, her⟩ : ∃ er, er = newE zs := ⟨_, rfl⟩
      have HE : Hid (er = newE zs) := her
      clear her hV1 hz1 hB HO HN HV HB1 HA hk hlt
      go_wp2_with fail
      refine (new_any HVz.out (by omega) HE.out).mono ?_
      rintro e w2 ⟨v2, rfl, HR2, hB2⟩
      have HB2 : Hid (Below w.heap.size w w2) := HBr.out.trans (hB2.mono HBr.out.size)
      clear hB2 HBr
      rcases HR2.out with ⟨hne, rfl⟩ | ⟨h0, N, ps, rfl, hp, hs, hR⟩
      · have he0 : (er != 0) = true := by rw [HE.out]; simpa using hne
        clear hne HR2
        go_wp2_with fail
        go_ret
        exact ⟨rfl, HB2.out⟩
      · obtain rfl : er = 0 := by rw [HE.out]; exact h0
        have HR : Hid (RingAt w2 N ps) := hR
        have HP : Hid (ps.Perm zs) := hp
        have HS : Hid (Str ps) := hs
        have hpl : ps.length ≤ 40 := by rw [hp.length_eq]; exact hl
        have HPL : Hid (ps.length = zs.length) := hp.length_eq
        clear h0 hp hs hR HR2
        by_cases hz0 : zs.length = 0
        · go_wp2_with fail
          go_ret
          exact ⟨rfl, HB2.out⟩
        · have hz : ((zs.length : Int) == 0) = false := by rw [beq_eq_false_iff_ne]; omega
          have hp0 : 0 < ps.length := by rw [HPL.out]; omega
          clear hz0
          go_wp2_with fail
          refine (places_any HR.out (by omega)).mono ?_
          rintro e w3 ⟨v3, rfl, HO3, hB3⟩
          obtain ⟨x3, c3, rfl, hV3, _⟩ := HO3.out.view
          have hc3 := hV3.2.1
          have hc3m : c3 ≤ 9223372036854775807 := hV3.2.2.1
          have HV3 : Hid (View 2 VP w3 x3 ps.length c3 ps) := hV3
          have HR3 : Hid (RingAt w3 N ps) := HR.out.old hB3
          have HB3 : Hid (Below w.heap.size w w3) := HB2.out.trans (hB3.mono HB2.out.size)
          have HPB : Hid (∀ p ∈ ps, I64 p.1) := fun p hp => HZ1.out p (HP.out.subset hp)
          obtain ⟨K, hK⟩ : ∃ K, K = A % ps.length := ⟨_, rfl⟩
          have hKl : K < ps.length := by rw [hK]; exact Nat.mod_lt _ hp0
          have hKm : (A : Int).tmod (ps.length : Int) = (K : Int) := by rw [hK, ← Int.ofNat_tmod]
          have hpn : ¬ ps.length = 0 := by omega
          clear hB3 hV3 HO3 HB2 HR hK
          by_cases hK0 : K = 0
          · subst hK0
            obtain ⟨m, hm⟩ : ∃ m, ps.length = m + 1 := ⟨ps.length - 1, by omega⟩
            have hmI : (ps.length : Int) - 1 = (m : Int) := by omega
            have hmI2 : (m : Int) < (ps.length : Int) := by omega
            obtain ⟨b, off, ha, hb, ct, ch⟩ := HV3.out.pl (i := m) (by omega)
            obtain ⟨b', off', ha', hb', _, ch0⟩ := HV3.out.pl (i := 0) (by omega)
            rw [Nat.zero_mul, Nat.add_zero] at ch0
            subst ha
            cases ha'
            obtain ⟨p, hp⟩ : ∃ p, p = ps.getD m default := ⟨_, rfl⟩
            obtain ⟨h0, hh0⟩ : ∃ h0, h0 = (ps.getD 0 default).2 := ⟨_, rfl⟩
            rw [← hp] at ct ch
            rw [← hh0] at ch0
            obtain ⟨tk, hs⟩ := p
            have HM : Hid (hs = ownV ps tk) := by
              show _ = _
              rw [ownV_pos hp0]
              exact (ownH_self HS.out (p := (tk, hs)) (by rw [hp]; exact getD_mem (by omega))).symm
            have HF : Hid (h0 = ownV ps (-9223372036854775808)) := by
              show _ = _
              rw [ownV_pos hp0, hh0]
              exact (ownH_first HS.out hp0 (HPB.out _ (getD_mem (by omega))).1).symm
            have HBL : Hid (b < w3.heap.size) := hb
            have HC : Hid (w3.cell? ⟨b, off + m * 2 + 1, none⟩ = some (.string hs) ∧ w3.cell? ⟨b, off + 1, none⟩ = some (.string h0)) := ⟨ch, ch0⟩
            clear hp hh0 hb hb' hm ch ch0
            go_wp2_with fail
            refine (owner_any HS.out HR3.out (by omega) HM.out (r := true) (by simpa using hp0)).mono ?_
            rintro e w4 ⟨rfl, hB4⟩
            have HR4 : Hid (RingAt w4 N ps) := HR3.out.old hB4
            have HB4 : Hid (Below w3.heap.size w3 w4) := hB4
            clear hB4 HR3 ct
            go_wp2_with fail
            refine (owner_any HS.out HR4.out (by omega) HF.out (r := true) (by simpa using hp0)).mono ?_
            rintro e w5 ⟨rfl, hB5⟩
            have HB5 : Hid (Below w3.heap.size w3 w5) := HB4.out.trans (hB5.mono HB4.out.size)
            have ch : w5.cell? ⟨b, off + m * 2 + 1, none⟩ = some (.string hs) := (HB5.out.cell (p := ⟨b, off + m * 2 + 1, none⟩) HBL.out).trans HC.out.1
            have ch0 : w5.cell? ⟨b, off + 1, none⟩ = some (.string h0) := (HB5.out.cell (p := ⟨b, off + 1, none⟩) HBL.out).trans HC.out.2
            clear hB5 HR4 HB4
            go_wp2_with fail
            go_ret
            exact ⟨rfl, HB3.out.trans (HB5.out.mono HB3.out.size)⟩
          · obtain ⟨j, hj⟩ : ∃ j, K = j + 1 := ⟨K - 1, by omega⟩
            have hjI : (K : Int) - 1 = (j : Int) := by omega
            have hjI2 : (j : Int) < (ps.length : Int) := by omega
            have hkI2 : (K : Int) < (ps.length : Int) := by omega
            have hkI0 : ((K : Int) == 0) = false := by rw [beq_eq_false_iff_ne]; omega
            obtain ⟨b, off, ha, hb, ct, ch⟩ := HV3.out.pl (i := K) (by omega)
            obtain ⟨b', off', ha', hb', ct0, _⟩ := HV3.out.pl (i := j) (by omega)
            subst ha
            cases ha'
            obtain ⟨p, hp⟩ : ∃ p, p = ps.getD K default := ⟨_, rfl⟩
            obtain ⟨t0, ht0⟩ : ∃ t0, t0 = (ps.getD j default).1 := ⟨_, rfl⟩
            rw [← hp] at ct ch
            rw [← ht0] at ct0
            obtain ⟨t1, hs⟩ := p
            have hlt1 : t0 < t1 := by
              have := str_getD HS.out (i := j) (j := K) (by omega) (by omega)
              rw [← ht0, ← hp] at this; exact this
            have hb1 : I64 t1 := by have := HPB.out _ (getD_mem (l := ps) (i := K) (by omega)); rw [← hp] at this; exact this
            have hb0 : I64 t0 := by have := HPB.out _ (getD_mem (l := ps) (i := j) (by omega)); rw [← ht0] at this; exact this
            obtain ⟨S, hS⟩ : ∃ S : Nat, (S : Int) = t1 - t0 := ⟨(t1 - t0).toNat, by omega⟩
            have hS0 : ¬ S = 0 := by omega
            have hSW : IntKind.u64.wrap (IntKind.u64.wrap t1 - IntKind.u64.wrap t0) = (S : Int) := by rw [hS]; exact arc_span hb0 hb1 hlt1
            obtain ⟨R, hR⟩ : ∃ R, R = F % S := ⟨_, rfl⟩
            have hRS : R < S := by rw [hR]; exact Nat.mod_lt _ (by omega)
            have hRm : (F : Int).tmod (S : Int) = (R : Int) := by rw [hR, ← Int.ofNat_tmod]
            have hTW : IntKind.i64.wrap (IntKind.u64.wrap (IntKind.u64.wrap (IntKind.u64.wrap t0 + 1) + (R : Int))) = t0 + 1 + (R : Int) := arc_tok hb0 hb1 (by omega) (by omega)
            have HM : Hid (hs = ownV ps (t0 + 1 + (R : Int))) := by
              show _ = _
              rw [ownV_pos hp0]
              have := ownH_arc HS.out (k := j) (by omega) (t := t0 + 1 + (R : Int)) (by rw [← ht0]; omega) (by rw [← hj, ← hp]; show _ ≤ t1; omega)
              rw [this, ← hj, ← hp]
            have HBL : Hid (b < w3.heap.size) := hb
            have HC : Hid (w3.cell? ⟨b, off + K * 2 + 1, none⟩ = some (.string hs)) := ch
            clear hp ht0 hb hb' hj ch hS hR hb0 hb1 hlt1 hK0
            go_wp2_with fail
            go_quiet (fail)
            go_wp2_with fail
            obtain ⟨W, hW⟩ : ∃ W, W = w3.drewN nq := ⟨_, rfl⟩
            rw [← hW]
            have HBW : Hid (Below w3.heap.size w3 W) := by rw [hW]; exact below_drewN _ _
            have cx : W.cell? ⟨b, off + j * 2, none⟩ = some (.int .i64 t0) := (HBW.out.cell (p := ⟨b, off + j * 2, none⟩) HBL.out).trans ct0
            clear hW ct ct0
            go_quiet (fail)
            have HBX : Hid (Below w3.heap.size w3 (W.drewN nq)) := below_drewN' HBW.out _
            have HR4 : Hid (RingAt (W.drewN nq) N ps) := HR3.out.old HBX.out
            obtain ⟨X, hX⟩ : ∃ X, X = W.drewN nq := ⟨_, rfl⟩
            rw [← hX] at HBX HR4 ⊢
            clear hX HR3 cx HBW
            go_wp2_with fail
            refine (owner_any HS.out HR4.out (by omega) HM.out (r := true) (by simpa using hp0)).mono ?_
            rintro e w5 ⟨rfl, hB5⟩
            have HB5 : Hid (Below w3.heap.size w3 w5) := HBX.out.trans (hB5.mono HBX.out.size)
            have ch : w5.cell? ⟨b, off + K * 2 + 1, none⟩ = some (.string hs) := (HB5.out.cell (p := ⟨b, off + K * 2 + 1, none⟩) HBL.out).trans HC.out
            clear hB5 HR4 HBX
            go_wp2_with fail
            go_ret
            exact ⟨rfl, HB3.out.trans (HB5.out.mono HB3.out.size)⟩

theorem arcs_any (hA : Awake) {w : World} {a : Option Addr} {len cap : Nat} {ns : List Int} (h : View 1 VI w a len cap ns) (hn : ∀ n ∈ ns, -9223372036854775808 ≤ n ∧ n ≤ 9223372036854775807) {t u : Int} (ht : 0 ≤ t ∧ t ≤ 18446744073709551615) (hu : 0 ≤ u ∧ u ≤ 18446744073709551615) :
    Calls Tryd.prog 6 #[.slice a len cap, .int .u64 t, .int .u64 u] w fun e w' => e = .returned (.bool true) ∧ Below w.heap.size w w' := by
  obtain ⟨A, rfl⟩ := Int.eq_ofNat_of_zero_le ht.1
  obtain ⟨F, rfl⟩ := Int.eq_ofNat_of_zero_le hu.1
  by_cases hl : len ≤ 40
  · exact arcs_walk hA h hl hn (by omega) (by omega)
  · exact arcs_pass hA (by omega) (Nat.le_trans h.2.1 h.2.2.1) _ _
end Go.Proofs.YtohkpihjkaffoaaDoor
