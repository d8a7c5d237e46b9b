/-
  The document's own look at what may be put.
-/
import Derived.Test.YtnapeecmlkkolaaDoorSame10
import Derived.Test.YtnapeecmlkkolaaDoorPut10
namespace Go.Proofs.YtnapeecmlkkolaaDoor
open Go.RowKit
set_option maxRecDepth 100000
set_option linter.unusedVariables false
set_option linter.unusedSimpArgs false

set_option maxHeartbeats 8000000 in
theorem dmay_any {m : Nat} {F : Nat → Prop} {w : World} {cnt : Int} {L : List Col} {mo : Bool} {vk : Int} {vb : ByteArray} {Q : List (List Vl)} {ca : Option Addr} {cl cc : Nat} {ra : Option Addr} {rl rc : Nat}
    (h : DtS (m + 1) F w L Q ca cl cc ra rl rc) (hi : -9223372036854775808 ≤ cnt ∧ cnt ≤ 9223372036854775807) (gl : Bool) {d : Bool} (hd : d = (mayT ((cnt, L, mo, (vk, vb), Q) : Tb) && (!gl || oneB L))) :
    Calls Tryd.prog 35 #[.agg #[.int .i64 cnt, .slice ca cl cc, .bool mo, .int .i64 vk, .string vb, .slice ra rl rc], .bool gl] w fun e w' => e = .returned (.bool d) ∧ Hid (Below w.heap.size w w') := by
  have HD : Hid (d = (mayT ((cnt, L, mo, (vk, vb), Q) : Tb) && (!gl || oneB L))) := hd
  have HRL : Hid (Q.length = rl) := h.2.1
  have HCL : Hid (L.length = cl) := h.1.1
  have hmx := h.2.max
  have hmc := h.1.max
  unfold maxLen at hmx hmc
  obtain ⟨p, hp⟩ : ∃ p, p = w.heap.size := ⟨_, rfl⟩
  have HPE : Hid (w.heap.size = p) := hp.symm
  obtain ⟨w0, hw0⟩ : ∃ w0, w0 = w.alloc (.cells #[.int .i64 cnt, .slice ca cl cc, .bool mo, .int .i64 vk, .string vb, .slice ra rl rc] 38) := ⟨_, rfl⟩
  have HW0 : Hid (w.alloc (.cells #[.int .i64 cnt, .slice ca cl cc, .bool mo, .int .i64 vk, .string vb, .slice ra rl rc] 38) = w0) := hw0.symm
  have hB0 : Below w.heap.size w w0 := by rw [hw0]; exact below_one _ _
  have HB0 : Hid (Below w.heap.size w w0) := hB0
  have HP0 : Hid (w0.heap[p]? = some (.cells #[.int .i64 cnt, .slice ca cl cc, .bool mo, .int .i64 vk, .string vb, .slice ra rl rc] 38 (0, 0))) := by rw [hw0, hp]; exact heap_alloc_new w _
  obtain ⟨g, hg⟩ : ∃ g, g = w0.heap.size := ⟨_, rfl⟩
  have HGE : Hid (w0.heap.size = g) := hg.symm
  have hpg : p < g := by rw [hg]; exact block_lt HP0.out
  have HBW : Hid (∀ W, Below g w0 W → Below w.heap.size w W) := fun W hW => HB0.out.trans (hW.mono (by rw [hg]; exact HB0.out.size))
  have HA : Hid (∀ W, Below g w0 W → DtS (m + 1) F W L Q ca cl cc ra rl rc) := fun W hW => h.old (HBW.out W hW)
  have HPW : Hid (∀ W, Below g w0 W → W.heap[p]? = some (.cells #[.int .i64 cnt, .slice ca cl cc, .bool mo, .int .i64 vk, .string vb, .slice ra rl rc] 38 (0, 0))) := fun W hW => (hW.block p hpg).trans HP0.out
  obtain ⟨⟨a0, a1, a2, a3, a4, a5⟩, _⟩ := blk6 HP0.out
  have HBX : Hid (Below g w0 w0) := Below.refl _ _
  clear hp hw0 hB0 hg hpg h hd
  by_cases h1 : cnt < 0
  · have HE : Hid (d = false) := by show _ = _; rw [HD.out, mayT, decide_eq_false (show ¬ 0 ≤ cnt by omega)]; simp
    go_enter Tryd.func35, Tryd.ntmps35
    go_upto_region 1 with fail
    (try rw [HPE.out])
    rw [HW0.out]
    go_wp2_with fail
    go_ret
    exact ⟨by (rw [HE.out]; first | done | rfl), HBW.out _ HBX.out⟩
  by_cases h2 : 4096 < cnt
  · have HE : Hid (d = false) := by show _ = _; rw [HD.out, mayT, decide_eq_false (show ¬ cnt ≤ 4096 by omega)]; simp
    go_enter Tryd.func35, Tryd.ntmps35
    go_upto_region 1 with fail
    (try rw [HPE.out])
    rw [HW0.out]
    go_wp2_with fail
    go_ret
    exact ⟨by (rw [HE.out]; first | done | rfl), HBW.out _ HBX.out⟩
  by_cases h3 : (4096 : Int) < rl
  · have HE : Hid (d = false) := by show _ = _; rw [HD.out, mayT, decide_eq_false (show ¬ Q.length ≤ 4096 by rw [HRL.out]; omega)]; simp
    go_enter Tryd.func35, Tryd.ntmps35
    go_upto_region 1 with fail
    (try rw [HPE.out])
    rw [HW0.out]
    go_wp2_with fail
    go_ret
    exact ⟨by (rw [HE.out]; first | done | rfl), HBW.out _ HBX.out⟩
  obtain ⟨c1, hc1⟩ : ∃ c1 : Bool, c1 = (decide (cl = 0) || decide ((cl : Int) = cnt)) := ⟨_, rfl⟩
  have HDD : Hid (d = ((c1 && (Q.drop 0).all (rowOk cnt)) && (!gl || oneB L))) := by
    show _ = _
    rw [HD.out, mayT]
    show (((decide (0 ≤ cnt) && decide (cnt ≤ 4096) && decide (Q.length ≤ 4096)) && ((decide (L.length = 0) || decide ((L.length : Int) = cnt)) && Q.all (rowOk cnt))) && _) = _
    rw [HCL.out, hc1, List.drop_zero, decide_eq_true (show 0 ≤ cnt by omega), decide_eq_true (show cnt ≤ 4096 by omega), decide_eq_true (show Q.length ≤ 4096 by rw [HRL.out]; omega)]
    rfl
  cases c1 with
  | false =>
    have hne : ¬ cl = 0 ∧ ¬ (cl : Int) = cnt := by simpa using hc1.symm
    have t1 : 0 < cl := by omega
    have t2 : ((cl : Int) != cnt) = true := by simp; omega
    have HE : Hid (d = false) := by show _ = _; rw [HDD.out]; rfl
    clear hc1 hne HDD
    go_enter Tryd.func35, Tryd.ntmps35
    go_upto_region 1 with fail
    (try rw [HPE.out])
    rw [HW0.out]
    go_wp2_with fail
    go_ret
    exact ⟨by (rw [HE.out]; first | done | rfl), HBW.out _ HBX.out⟩
  | true =>
    have hor : cl = 0 ∨ (cl : Int) = cnt := by simpa using hc1.symm
    have HGO : Hid (((Q.drop 0).all (rowOk cnt) && (!gl || oneB L)) = d) := by show _ = _; rw [HDD.out]; rfl
    clear hc1 HDD HD
    obtain ⟨n, hn⟩ := Int.eq_ofNat_of_zero_le (show 0 ≤ cnt by omega)
    subst hn
    obtain ⟨s0, t0, hst⟩ : ∃ s0 t0, oneB L = (L.drop 0).all (oneOf s0 t0) ∧ (∀ c, L[0]? = some c → c.1 = s0 ∧ c.2.1 = t0) := by
      cases L with
      | nil => exact ⟨⟨#[]⟩, ⟨#[]⟩, rfl, fun c hc => by simp at hc⟩
      | cons c r => exact ⟨c.1, c.2.1, rfl, fun c' hc => by simp at hc; subst hc; exact ⟨rfl, rfl⟩⟩
    have HO0 : Hid (gl = true → (L.drop 0).all (oneOf s0 t0) = oneB L) := fun _ => hst.1.symm
    have H00 : Hid (∀ c, L[0]? = some c → c.1 = s0 ∧ c.2.1 = t0) := hst.2
    clear hst
    have key : ∀ (hh : (¬ 0 < cl) ∨ (0 < cl ∧ ((cl : Int) != (n : Int)) = false)), Calls Tryd.prog 35 #[.agg #[.int .i64 n, .slice ca cl cc, .bool mo, .int .i64 vk, .string vb, .slice ra rl rc], .bool gl] w fun e w' => e = .returned (.bool d) ∧ Hid (Below w.heap.size w w') := by
      intro hh
      rcases hh with u0 | ⟨u0, u1⟩
      all_goals
        go_enter Tryd.func35, Tryd.ntmps35
        go_upto_region 1 with fail
        (try rw [HPE.out])
        rw [HW0.out]
        clear HW0
        go_upto_region 3 with fail
        clear a0 a1 a2 a3 a4 a5 u0
        go_wp2_with fail
        go_loopw [5] (fun t wr => ∃ k : Nat, k ≤ cl ∧ t = .int .i64 k ∧ Hid (gl = true → (L.drop k).all (oneOf s0 t0) = oneB L) ∧ Hid (Below g w0 wr)) (fun t _ => cl - (intOf t).toNat)
        case atStart => exact ⟨0, by omega, rfl, HO0, HBX⟩
        case round =>
          obtain ⟨k, hk, rfl, HI, HBk⟩ := hrel
          clear HO0 HBX
          obtain ⟨w1, hw1⟩ : ∃ x, x = wr := ⟨_, rfl⟩
          subst hw1
          obtain ⟨⟨a0, a1, a2, a3, a4, a5⟩, _⟩ := blk6 (HPW.out _ HBk.out)
          by_cases hlt : k < cl
          case pos =>
            cases gl with
            | false =>
              have HE : Hid (false = true → (L.drop (k + 1)).all (oneOf s0 t0) = oneB L) := fun e => by cases e
              go_upto_region 6 with fail
              go_quiet (fail)
              clear a0 a1 a2 a3 a4 a5
              go_wp2_with fail
              go_roundw
              case rel => exact ⟨k + 1, by omega, by go_num, HE, below_drewN HBk.out _⟩
              case measure => simp [intOf]; omega
            | true =>
              obtain ⟨sz, tz, nz, XZ, bz, oz, naz, nlz, ncz, kaz, klz, kcz, hxz, haz, hbsz, _, ⟨z0, z1, _⟩, _, _⟩ := (HA.out _ HBk.out).1.col (k := 0) (by omega)
              obtain ⟨s, t, nm, X, b8, off, na, nl, nc, ka, kl, kc, hx, ha, hbs, hF, ⟨c0, c1, c2, c3, c4, c5, c6, c7⟩, hsz, hty⟩ := (HA.out _ HBk.out).1.col (k := k) (by omega)
              subst ha
              cases haz
              have hz := H00.out _ hxz
              simp only at hz
              obtain ⟨rfl, rfl⟩ := hz
              simp only [Nat.zero_mul, Nat.add_zero] at z0 z1
              have HX : Hid (L.drop k = (s, t, nm, X) :: L.drop (k + 1)) := drop_cons hx
              have hp0 : 0 < cl := by omega
              clear hx hsz hty hF hxz
              by_cases hs : nmB s sz = true
              · have qs : (s.toList == sz.toList) = true := hs
                have qs2 : (s.toList != sz.toList) = false := by simp only [bne, qs]; rfl
                by_cases ht : nmB t tz = true
                · have qt : (t.toList == tz.toList) = true := ht
                  have qt2 : (t.toList != tz.toList) = false := by simp only [bne, qt]; rfl
                  have HE : Hid (true = true → (L.drop (k + 1)).all (oneOf sz tz) = oneB L) := fun _ => by have h9 := HI.out rfl; rw [HX.out, List.all_cons, oneOf] at h9; simpa [hs, ht] using h9
                  clear hs ht
                  go_upto_region 6 with fail
                  go_quiet (fail)
                  clear a0 a1 a2 a3 a4 a5 c0 c1 c2 c3 c4 c5 c6 c7 z0 z1
                  go_wp2_with fail
                  go_roundw
                  case rel => exact ⟨k + 1, by omega, by go_num, (fun _ => HE.out rfl), below_drewN HBk.out _⟩
                  case measure => simp [intOf]; omega
                · have qt : (t.toList == tz.toList) = false := by have : nmB t tz = false := by simpa using ht
                                                                  exact this
                  have qt2 : (t.toList != tz.toList) = true := by simp only [bne, qt]; rfl
                  have HO : Hid (oneB L = false) := by show _ = _; rw [← HI.out rfl, HX.out, List.all_cons, oneOf]; simp [ht]
                  have HE : Hid (d = false) := by show _ = _; rw [← HGO.out, HO.out]; simp
                  clear hs ht
                  go_upto_region 6 with fail
                  go_quiet (fail)
                  go_wp2_with fail
                  go_ret
                  exact ⟨by (rw [HE.out]; first | done | rfl), HBW.out _ (below_drewN HBk.out _)⟩
              · have qs : (s.toList == sz.toList) = false := by have : nmB s sz = false := by simpa using hs
                                                                exact this
                have qs2 : (s.toList != sz.toList) = true := by simp only [bne, qs]; rfl
                have HO : Hid (oneB L = false) := by show _ = _; rw [← HI.out rfl, HX.out, List.all_cons, oneOf]; simp [hs]
                have HE : Hid (d = false) := by show _ = _; rw [← HGO.out, HO.out]; simp
                clear hs
                go_upto_region 6 with fail
                go_quiet (fail)
                go_wp2_with fail
                go_ret
                exact ⟨by (rw [HE.out]; first | done | rfl), HBW.out _ (below_drewN HBk.out _)⟩
          case neg =>
            have HG1 : Hid ((!gl || oneB L) = true) := by
              show _ = _
              cases gl with
              | false => rfl
              | true =>
                rw [← HI.out rfl, List.drop_eq_nil_of_le (by rw [HCL.out]; omega)]
                rfl
            have HG2 : Hid ((Q.drop 0).all (rowOk (n : Int)) = d) := by show _ = _; rw [← HGO.out, HG1.out, Bool.and_true]
            obtain rfl : k = cl := by omega
            clear HGO HG1 HI
            go_wp2_with fail
            go_loopw [6] (fun t wr => ∃ j : Nat, j ≤ rl ∧ t = .int .i64 j ∧ Hid ((Q.drop j).all (rowOk (n : Int)) = d) ∧ Hid (Below g w0 wr)) (fun t _ => rl - (intOf t).toNat)
            case atStart => exact ⟨0, by omega, rfl, HG2, HBk⟩
            case round =>
              obtain ⟨j, hj, rfl, HI, HBj⟩ := hrel
              clear HG2 HBk a0 a1 a2 a3 a4 a5
              obtain ⟨w2, hw2⟩ : ∃ x, x = wr := ⟨_, rfl⟩
              subst hw2
              obtain ⟨⟨a0, a1, a2, a3, a4, a5⟩, _⟩ := blk6 (HPW.out _ HBj.out)
              by_cases hlt2 : j < rl
              case neg =>
                have HE : Hid (d = true) := by
                  show _ = _
                  rw [← HI.out, List.drop_eq_nil_of_le (by rw [HRL.out]; omega)]
                  rfl
                go_wp2_with fail
                go_ret
                exact ⟨by (rw [HE.out]; first | done | rfl), HBW.out _ HBj.out⟩
              case pos =>
                obtain ⟨r, b, off, y, ly, cy, hr, hra, hb, _, c0, hrow⟩ := (HA.out _ HBj.out).2.rs hlt2
                subst hra
                have HX : Hid (Q.drop j = r :: Q.drop (j + 1)) := drop_cons hr
                have HROW : Hid (Sees 2 F (VVs F w2) w2 y ly cy r) := hrow
                have HLY : Hid (r.length = ly) := hrow.1
                have hmy := hrow.max
                unfold maxLen at hmy
                have HCB : Hid (w2.cell? ⟨b, off + j, none⟩ = some (.slice y ly cy)) := c0
                have HBB : Hid (b < w2.heap.size) := hb
                clear hr hrow hb
                by_cases hlen : ly = n
                case neg =>
                  have tl : ((ly : Int) != (n : Int)) = true := by simp; omega
                  have HE : Hid (d = false) := by show _ = _; rw [← HI.out, HX.out, List.all_cons, rowOk, HLY.out, decide_eq_false (show ¬ (ly : Int) = n by omega)]; rfl
                  go_upto_region 11 with fail
                  go_quiet (fail)
                  go_wp2_with fail
                  go_ret
                  exact ⟨by (rw [HE.out]; first | done | rfl), HBW.out _ (below_drewN HBj.out _)⟩
                case pos =>
                  have tl : ((ly : Int) != (n : Int)) = false := by simp; omega
                  obtain ⟨u, hu⟩ : ∃ u, u = unB r := ⟨_, rfl⟩
                  have HU0 : Hid (unB (r.drop 0) = u) := by show _ = _; rw [List.drop_zero, hu]
                  have HRO : Hid (rowOk (n : Int) r = !u) := by show _ = _; rw [rowOk, HLY.out, decide_eq_true (show (ly : Int) = n by omega), ← hu]; rfl
                  clear hu
                  go_upto_region 11 with fail
                  go_quiet (fail)
                  clear a0 a1 a2 a3 a4 a5 c0
                  go_wp2_with fail
                  go_loopw [7] (fun t wr => ∃ l : Nat, l ≤ n ∧ t = .int .i64 l ∧ Hid (unB (r.drop l) = u) ∧ Hid (Below w2.heap.size w2 wr)) (fun t _ => n - (intOf t).toNat)
                  case atStart => exact ⟨0, by omega, rfl, HU0, below_drewN (Below.refl _ _) _⟩
                  case round =>
                    obtain ⟨l, hl, rfl, HUl, HBl⟩ := hrel
                    clear HU0
                    obtain ⟨w3, hw3⟩ : ∃ x, x = wr := ⟨_, rfl⟩
                    subst hw3
                    have HB3 : Hid (Below g w0 w3) := HBj.out.trans (HBl.out.mono (by rw [← HGE.out]; exact HBj.out.size))
                    obtain ⟨⟨a0, a1, a2, a3, a4, a5⟩, _⟩ := blk6 (HPW.out _ HB3.out)
                    have c0 : w3.cell? ⟨b, off + j, none⟩ = some (.slice y ly cy) := (HBl.out.cell (p := ⟨b, off + j, none⟩) HBB.out).trans HCB.out
                    by_cases hlt3 : l < n
                    case neg =>
                      have HE : Hid ((Q.drop (j + 1)).all (rowOk (n : Int)) = d) := by
                        show _ = _
                        have hnil : r.drop l = [] := List.drop_eq_nil_of_le (by rw [HLY.out]; omega)
                        rw [← HI.out, HX.out, List.all_cons, HRO.out, ← HUl.out, hnil]
                        rfl
                      go_wp2_with fail
                      go_roundw
                      case rel => exact ⟨j + 1, by omega, by go_num, HE, HB3⟩
                      case measure => simp [intOf]; omega
                    case pos =>
                      obtain ⟨V, vb2, voff, hv, hya, hvb, _, d0, d1⟩ := HROW.out.vs (k := l) (by omega)
                      subst hya
                      obtain ⟨v1, v2⟩ := V
                      have HXV : Hid (r.drop l = (v1, v2) :: r.drop (l + 1)) := drop_cons hv
                      have e0 : w3.cell? ⟨vb2, voff + l * 2, none⟩ = some (.int .i64 v1) := (HBl.out.cell (p := ⟨vb2, voff + l * 2, none⟩) hvb).trans d0
                      clear hv d0 d1
                      by_cases hv1 : v1 = 1
                      case pos =>
                        have q1 : (v1 == 1) = true := by simpa using hv1
                        have HUE : Hid (u = true) := by show _ = _; rw [← HUl.out, HXV.out, unB, List.any_cons, q1]; rfl
                        have HE : Hid (d = false) := by show _ = _; rw [← HI.out, HX.out, List.all_cons, HRO.out, HUE.out]; rfl
                        clear hv1
                        go_wp2_with fail
                        go_ret
                        exact ⟨by (rw [HE.out]; first | done | rfl), HBW.out _ HB3.out⟩
                      case neg =>
                        have q1 : (v1 == 1) = false := by simpa using hv1
                        have HUE : Hid (unB (r.drop (l + 1)) = u) := by show _ = _; rw [← HUl.out, HXV.out, unB, unB, List.any_cons, q1]; rfl
                        clear hv1
                        go_wp2_with fail
                        go_roundw
                        case rel => exact ⟨l + 1, by omega, by go_num, HUE, HBl⟩
                        case measure => simp [intOf]; omega
    by_cases hc0 : cl = 0
    · exact key (.inl (by omega))
    · exact key (.inr ⟨by omega, by simp; omega⟩)
end Go.Proofs.YtnapeecmlkkolaaDoor
