/-
  RoutingValues walked: it answers true, and turns nothing that was there.
-/
import Derived.Test.YtfkhcgkobffpiaaOne
import Derived.Test.YtfkhcgkobffpiaaGv
namespace Go.Proofs.Ytfkhcgkobffpiaa
open Go.RowKit
set_option maxRecDepth 100000
set_option linter.unusedVariables false
set_option linter.unusedSimpArgs false

/-- Values that are set, of these bytes. -/
def setL (xs : List (List Int)) : List (Int × List Int) := xs.map fun X => (2, X)

theorem setL_at {xs : List (List Int)} {i : Nat} (h : i < xs.length) : (setL xs).getD i default = (2, xs.getD i default) := by
  unfold setL
  rw [List.getD_eq_getElem?_getD, List.getD_eq_getElem?_getD, List.getElem?_map, List.getElem?_eq_getElem h]
  rfl

theorem setL_take (xs : List (List Int)) (k : Nat) (h : k < xs.length) : setL (xs.take (k + 1)) = setL (xs.take k) ++ [(2, xs.getD k default)] := by
  unfold setL
  rw [List.take_add_one, List.map_append, List.getD_eq_getElem?_getD, List.getElem?_eq_getElem h]
  simp

/-- The parts at these places. -/
def atL (xs : List (List Int)) (ms : List Int) : List (List Int) := ms.map fun n => xs.getD n.toNat default

theorem pick_set {xs : List (List Int)} {ms : List Int} (h : ∀ m ∈ ms, m.toNat < xs.length) : pickR (setL xs) ms [] = (0, atL xs ms) := by
  rw [pickR_all _ _ _ (fun m hm => ⟨by rw [setL, List.length_map]; exact h m hm, by rw [setL_at (h m hm)]⟩), List.nil_append]
  congr 1
  unfold atL
  apply List.map_congr_left
  intro m hm
  rw [setL_at (h m hm)]

theorem atL_mem {xs : List (List Int)} {ms : List Int} (h : ∀ m ∈ ms, m.toNat < xs.length) : ∀ p ∈ atL xs ms, p ∈ xs := by
  intro p hp
  obtain ⟨m, hm, rfl⟩ := List.mem_map.1 hp
  rw [List.getD_eq_getElem?_getD, List.getElem?_eq_getElem (h m hm)]
  exact List.getElem_mem _

theorem atL_at (xs : List (List Int)) {ms : List Int} {i : Nat} (h : i < ms.length) : (atL xs ms).getD i default = xs.getD (ms.getD i default).toNat default := by
  unfold atL
  rw [List.getD_eq_getElem?_getD, List.getElem?_map, List.getD_eq_getElem?_getD (l := ms), List.getElem?_eq_getElem h]
  rfl

/-- The rests of all places. -/
def remL (ns : List Int) (v : Nat) : List Int := ns.map fun n => n % v

theorem remL_take (ns : List Int) (v k : Nat) (h : k < ns.length) : remL (ns.take (k + 1)) v = remL (ns.take k) v ++ [(ns.getD k default) % v] := by
  unfold remL
  rw [List.take_add_one, List.map_append, List.getD_eq_getElem?_getD, List.getElem?_eq_getElem h]
  simp

theorem remL_mem {ns : List Int} {v : Nat} (hv : 0 < v) (hv2 : v ≤ 65535) : ∀ m ∈ remL ns v, (0 ≤ m ∧ m ≤ 65535) ∧ m.toNat < v := by
  intro m hm
  obtain ⟨n, _, rfl⟩ := List.mem_map.1 hm
  have h1 := Int.emod_nonneg n (show (v : Int) ≠ 0 by omega)
  have h2 := Int.emod_lt_of_pos n (show (0 : Int) < v by omega)
  omega

set_option maxHeartbeats 400000 in
theorem vals_pass (a : Option Addr) (la ca : Nat) (b : Option Addr) (lb cb : Nat) (w : World) (h1 : la ≤ 9223372036854775807) (h2 : lb ≤ 9223372036854775807) (h : la < 2 ∨ (2 ≤ la ∧ 20 < la) ∨ (2 ≤ la ∧ la ≤ 20 ∧ lb = 0) ∨ (2 ≤ la ∧ la ≤ 20 ∧ lb ≠ 0 ∧ 20 < lb)) :
    Calls Try.prog 8 #[.slice a la ca, .slice b lb cb] w fun e w' => e = .returned (.bool true) ∧ Below w.heap.size w w' := by
  rcases h with h | ⟨h3, h⟩ | ⟨h3, h4, rfl⟩ | ⟨h3, h4, h5, h⟩
  · go_enter Try.func8, Try.ntmps8
    go_wp2_with (go_at_call 9; refine (awake_any _).mono ?_; rintro e w1 ⟨rfl, hB1⟩)
    go_ret
    exact ⟨rfl, hB1⟩
  · have d1 : decide ((la : Int) < 2) = false := by simp; omega
    go_enter Try.func8, Try.ntmps8
    go_wp2_with (go_at_call 9; refine (awake_any _).mono ?_; rintro e w1 ⟨rfl, hB1⟩)
    go_ret
    exact ⟨rfl, hB1⟩
  · have d1 : decide ((la : Int) < 2) = false := by simp; omega
    have d3 : decide ((20 : Int) < la) = false := by simp; omega
    go_enter Try.func8, Try.ntmps8
    go_wp2_with (go_at_call 9; refine (awake_any _).mono ?_; rintro e w1 ⟨rfl, hB1⟩)
    go_ret
    exact ⟨rfl, hB1⟩
  · have d1 : decide ((la : Int) < 2) = false := by simp; omega
    have d3 : decide ((20 : Int) < la) = false := by simp; omega
    have d2 : ((lb : Int) == 0) = false := by simp; omega
    go_enter Try.func8, Try.ntmps8
    go_wp2_with (go_at_call 9; refine (awake_any _).mono ?_; rintro e w1 ⟨rfl, hB1⟩)
    go_ret
    exact ⟨rfl, hB1⟩

set_option maxHeartbeats 8000000 in
theorem vals_walk (a : Option Addr) (la ca : Nat) (ns : List Int) (b : Option Addr) (lb cb : Nat) (xs : List (List Int)) (w : World) (ha : View 1 VU w a la ca ns) (hn : ∀ n ∈ ns, 0 ≤ n ∧ n ≤ 65535) (hb : View 1 VB w b lb cb xs) (h1 : 2 ≤ la) (h2 : la ≤ 20) (h3 : lb ≠ 0) (h4 : lb ≤ 20) :
    Calls Try.prog 8 #[.slice a la ca, .slice b lb cb] w fun e w' => e = .returned (.bool true) ∧ Below w.heap.size w w' := by
  have HA : Hid (View 1 VU w a la ca ns) := ha
  have HB : Hid (View 1 VB w b lb cb xs) := hb
  have HLA : Hid (ns.length = la) := ha.1
  have HLB : Hid (xs.length = lb) := hb.1
  have hca : la ≤ ca := ha.2.1
  have hcam : ca ≤ 9223372036854775807 := ha.2.2.1
  have hcb : lb ≤ cb := hb.2.1
  have hcbm : cb ≤ 9223372036854775807 := hb.2.2.1
  have HN : Hid (∀ k, k < la → 0 ≤ ns.getD k default ∧ ns.getD k default ≤ 65535) := fun k hk => by
    rw [List.getD_eq_getElem?_getD, List.getElem?_eq_getElem (by rw [HLA.out]; exact hk)]
    exact hn _ (List.getElem_mem _)
  have d1 : decide ((la : Int) < 2) = false := by simp; omega
  have d3 : decide ((20 : Int) < la) = false := by simp; omega
  have d2 : ((lb : Int) == 0) = false := by simp; omega
  have d4 : decide ((20 : Int) < lb) = false := by simp; omega
  clear ha hb hn
  go_enter Try.func8, Try.ntmps8
  go_wp2_with (go_at_call 9; refine (awake_any _).mono ?_; rintro e w1 ⟨rfl, hB1⟩)
  have HA1 : Hid (View 1 VU w1 a la ca ns) := HA.out.old stays_u hB1
  have HB1 : Hid (View 1 VB w1 b lb cb xs) := HB.out.old stays_b hB1
  go_loopw [6, 7] (fun v i wr => ∃ k : Nat, k ≤ lb ∧ i = .int .i64 k ∧ Hid (OwnG 47 2 GV wr (fun _ => True) v (setL (xs.take k))) ∧ Hid ((∀ q, v.ownBlock = some q → w1.heap.size ≤ q) ∧ ∀ j, j < k → (xs.getD j default).length ≤ 500) ∧ Below w1.heap.size w1 wr) (fun _ i _ => lb - (intOf i).toNat)
  case atStart => exact ⟨0, by omega, rfl, ownG_nil _ _ _ _ _, ⟨fun q e => by simp [Value.ownBlock] at e, fun j hj => by omega⟩, Below.refl _ _⟩
  case round =>
    obtain ⟨k, hk, rfl, HO, HJ, hB2⟩ := hrel
    by_cases hlt : k < lb
    · obtain ⟨g, off, a', l, cp, hg, hgs, hc0, hI, hl1, hl2, hl3⟩ := HB1.out.at hlt
      subst hg
      have hc : wr.cell? ⟨g, off + k, none⟩ = some (.slice a' l cp) := (hB2.cell (p := ⟨g, off + k, none⟩) hgs).trans hc0
      unfold maxLen at hl3
      have HL : Hid (l = (xs.getD k default).length) := hl1
      by_cases hbig : 500 < l
      · have hbd : (500 : Int) < l := by omega
        have hB02 : Below w.heap.size w wr := hB1.trans (hB2.mono hB1.size)
        clear hI hl1
        go_wp2_with fail
        go_ret
        exact ⟨rfl, hB02⟩
      · have hbd : decide ((500 : Int) < l) = false := by simp; omega
        have HJ2 : Hid (∀ j, j < k + 1 → (xs.getD j default).length ≤ 500) := fun j hj => by
          by_cases e : j = k
          · subst e; rw [← HL.out]; omega
          · exact HJ.out.2 j (by omega)
        obtain ⟨X, hX⟩ : ∃ X, X = xs.getD k default := ⟨_, rfl⟩
        rw [← hX] at hI
        have HI : Hid (IsB w1 a' l cp X) := hI
        obtain ⟨acc, hacc⟩ : ∃ acc, acc = setL (xs.take k) := ⟨_, rfl⟩
        have hml : acc.length = k := by rw [hacc, setL, List.length_map, List.length_take, HLB.out]; omega
        have HNN : Hid (acc ++ [(2, X)] = setL (xs.take (k + 1))) := by
          show _ = _
          rw [setL_take xs k (by rw [HLB.out]; exact hlt), ← hX, hacc]
        rw [← hacc] at HO
        have hbs := hB2.size
        have HO2 : Hid (OwnG 47 2 GV (wr.alloc (.cells #[.int .i64 2, .slice a' l cp] 47)) (fun _ => True) u6 acc) := HO.out.old stays_gv (below_one wr _)
        have HBN : Hid ((wr.alloc (.cells #[.int .i64 2, .slice a' l cp] 47)).heap[wr.heap.size]? = some (.cells [Value.int .i64 2, .slice a' l cp].toArray 47 (0, 0))) := heap_alloc_new wr _
        have HM : Hid (acc.length + 1 ≤ maxLen ∧ (acc.length + 1) * 32 ≤ 140737488355328) := by
          show _ ∧ _
          unfold maxLen; omega
        have HGV : Hid (GV (fun k => k < (wr.alloc (.cells #[.int .i64 2, .slice a' l cp] 47)).heap.size ∧ u6.ownBlock ≠ some k ∧ True) (wr.alloc (.cells #[.int .i64 2, .slice a' l cp] 47)) (2, X) (fun j => [Value.int .i64 2, .slice a' l cp].getD j default)) := by
          refine ⟨rfl, a', l, cp, rfl, (HI.out.old hB2).old (below_one _ _), fun q hq hl0 => ?_⟩
          obtain ⟨b1, o1, e1, hR⟩ := HI.out.2.2.2.2 hl0
          rw [e1] at hq
          cases hq
          have := hR.lt hl0
          refine ⟨⟨by simp; omega, fun e => by have := HJ.out.1 _ e; simp at this; omega, trivial⟩, by simp; omega⟩
        clear hX hacc hml hI hl1 hc0
        go_wp2_with (at_builtin; refine wpList_appendG rfl (.tmp 50) (.tmp 56) 43 rfl stays_gv elem_v rfl HO2.out rfl HBN.out rfl ?c1 _ HGV.out trivial HM.out.1 HM.out.2 ?_)
        case c1 => intro u hu; simp at hu; rcases hu with rfl | rfl <;> rfl
        intro v3 w3 ho3 hK3 hat3
        have HO3 : Hid (OwnG 47 2 GV w3 (fun _ => True) v3 (setL (xs.take (k + 1)))) := by rw [← HNN.out]; exact ho3
        have HJ3 : Hid (∀ q, v3.ownBlock = some q → w1.heap.size ≤ q) := fun q e => by
          rcases hat3 with hat | hat
          · exact HJ.out.1 q (by rw [← hat]; exact e)
          · rw [hat] at e; simp at e; omega
        have hB3 : Below w1.heap.size w1 w3 := (hB2.alloc hbs _).trans (hK3.below (by simp; omega) (fun k _ e => HJ.out.1 k e))
        clear ho3 hK3 hat3
        go_wp2_with fail
        go_roundw
        case rel => exact ⟨k + 1, by omega, by go_num, HO3, ⟨HJ3.out, HJ2.out⟩, hB3⟩
        case measure => simp [intOf]; omega
    · obtain rfl : k = lb := by omega
      have HX : Hid (∀ p ∈ xs, p.length ≤ 500) := mem_len (fun j hj => HJ.out.2 j (by rw [← HLB.out]; exact hj))
      have hO := HO.out
      rw [List.take_of_length_le (by rw [HLB.out]; exact Nat.le_refl _)] at hO
      obtain ⟨va, vc, hv6, hV⟩ := hO.view gv_v
      subst hv6
      have hsl : (setL xs).length = k := by rw [setL, List.length_map, HLB.out]
      rw [hsl] at hV ⊢
      obtain ⟨w2, hw2⟩ : ∃ w2, w2 = wr := ⟨_, rfl⟩
      subst hw2
      have HV2 : Hid (View 2 VV w2 va k vc (setL xs)) := hV
      have HA2 : Hid (View 1 VU w2 a la ca ns) := HA1.out.old stays_u hB2
      have HB2 : Hid (View 1 VB w2 b k cb xs) := HB1.out.old stays_b hB2
      have hB02 : Below w.heap.size w w2 := hB1.trans (hB2.mono hB1.size)
      have hwk : IntKind.u16.wrap (k : Int) = k := by rw [IntKind.wrap_u16]; omega
      clear HO HJ hO hV hsl hB2
      go_wp2_with fail
      go_loopw [8, 9] (fun v i wr => ∃ m : Nat, m ≤ la ∧ i = .int .i64 m ∧ Hid (Own 45 1 VU wr (fun q => w2.heap.size ≤ q) v (remL (ns.take m) k)) ∧ Below w2.heap.size w2 wr) (fun _ i _ => la - (intOf i).toNat)
      case atStart => exact ⟨0, by omega, rfl, own_nil _ _ _ _ _, Below.refl _ _⟩
      case round =>
        obtain ⟨m, hm, rfl, HO, hB3⟩ := hrel
        by_cases hlt2 : m < la
        · obtain ⟨g, off, hg, hgs, hc0⟩ := HA2.out.u16 hlt2
          subst hg
          obtain ⟨z, hz⟩ : ∃ z, z = ns.getD m default := ⟨_, rfl⟩
          have hz01 := HN.out m hlt2
          rw [← hz] at hc0 hz01
          have hc : wr.cell? ⟨g, off + m, none⟩ = some (.int .u16 z) := (hB3.cell (p := ⟨g, off + m, none⟩) hgs).trans hc0
          have hz0 := hz01.1
          have hz1 := hz01.2
          obtain ⟨r, hr⟩ : ∃ r, r = z % (k : Int) := ⟨_, rfl⟩
          have htm : z.tmod (k : Int) = r := by rw [Int.tmod_eq_emod_of_nonneg hz0, hr]
          obtain ⟨acc, hacc⟩ : ∃ acc, acc = remL (ns.take m) k := ⟨_, rfl⟩
          have hml : acc.length = m := by rw [hacc, remL, List.length_map, List.length_take, HLA.out]; omega
          have HNN : Hid (acc ++ [r] = remL (ns.take (m + 1)) k) := by
            show _ = _
            rw [remL_take ns k m (by rw [HLA.out]; exact hlt2), ← hz, hr, hacc]
          rw [← hacc] at HO
          have hbs := hB3.size
          have HO2 : Hid (Own 45 1 VU (wr.alloc (.cells #[.int .u16 r] 45)) (fun q => w2.heap.size ≤ q) u8 acc) := HO.out.old stays_u (below_one wr _)
          have HBN : Hid ((wr.alloc (.cells #[.int .u16 r] 45)).heap[wr.heap.size]? = some (.cells [Value.int .u16 r].toArray 45 (0, 0))) := heap_alloc_new wr _
          have HM : Hid (acc.length + 1 ≤ maxLen ∧ (acc.length + 1) * 2 ≤ 140737488355328) := by
            show _ ∧ _
            unfold maxLen; omega
          clear hc0 hz01 hz hr hacc hml
          go_wp2_with (at_builtin; refine wpList_append_item rfl (.tmp 64) (.tmp 73) 42 rfl stays_u elem_u rfl HO2.out rfl HBN.out rfl ?c1 r rfl ?c2 ?c3 HM.out.1 HM.out.2 ?_)
          case c1 => intro u hu; simp at hu; subst hu; rfl
          case c2 =>
            intro j q hj hq
            obtain rfl : j = 0 := by omega
            simp [Value.ownBlock] at hq
          case c3 => simp; omega
          intro v3 w3 ho3 hK3 hat3
          have HO3 : Hid (Own 45 1 VU w3 (fun q => w2.heap.size ≤ q) v3 (remL (ns.take (m + 1)) k)) := by rw [← HNN.out]; exact ho3
          have hB4 : Below w2.heap.size w2 w3 := (hB3.alloc hbs _).trans (hK3.below (by simp; omega) (fun q _ e => (HO2.out.lt q e).1))
          clear ho3 hK3 hat3
          go_wp2_with fail
          go_roundw
          case rel => exact ⟨m + 1, by omega, by go_num, HO3, hB4⟩
          case measure => simp [intOf]; omega
        · obtain rfl : m = la := by omega
          obtain ⟨ms, hms⟩ : ∃ ms, ms = remL ns k := ⟨_, rfl⟩
          have hO := HO.out
          rw [List.take_of_length_le (by rw [HLA.out]; exact Nat.le_refl _), ← hms] at hO
          obtain ⟨pa, pc, hv8, hP, _⟩ := hO.view
          subst hv8
          have hml : ms.length = m := by rw [hms, remL, List.length_map, HLA.out]
          rw [hml] at hP ⊢
          have HML : Hid (ms.length = m) := hml
          have HMM : Hid (∀ z ∈ ms, (0 ≤ z ∧ z ≤ 65535) ∧ z.toNat < k) := by rw [hms]; exact remL_mem (by omega) (by omega)
          have HP3 : Hid (View 1 VU wr pa m pc ms) := hP
          have HV3 : Hid (View 2 VV wr va k vc (setL xs)) := HV2.out.old stays_v hB3
          have HB3 : Hid (View 1 VB wr b k cb xs) := HB2.out.old stays_b hB3
          have hB03 : Below w.heap.size w wr := hB02.trans (hB3.mono hB02.size)
          obtain ⟨P, hPP⟩ : ∃ P, P = atL xs ms := ⟨_, rfl⟩
          have HPK : Hid (((0, P) : Int × List (List Int)) = pickR (setL xs) ms []) := by show _ = _; rw [hPP, pick_set (fun z hz => by rw [HLB.out]; exact (HMM.out z hz).2)]
          have HPL : Hid (P.length = m) := by show _ = _; rw [hPP, atL, List.length_map, HML.out]
          have HPX : Hid (∀ p ∈ P, p.length ≤ 500) := fun p hp => HX.out p (atL_mem (fun z hz => by rw [HLB.out]; exact (HMM.out z hz).2) p (by rw [← hPP]; exact hp))
          have HPA : Hid (∀ i, i < m → P.getD i default = xs.getD (ms.getD i default).toNat default) := fun i hi => by rw [hPP, atL_at xs (by rw [HML.out]; exact hi)]
          clear hms hO hP hml hPP HO hB3 hB02 HV2 HB2
          go_wp2_with fail
          refine (pick_any HP3.out HV3.out (by omega) (by omega) (fun z hz => (HMM.out z hz).1) (fun x hx => ?_) HPK.out).mono ?_
          · obtain ⟨X, hX, rfl⟩ := List.mem_map.1 hx
            exact Nat.le_trans (HX.out X hX) (by omega)
          rintro e w4 ⟨v4, ps, rfl, HO4, HPS, hB4⟩
          obtain ⟨x4, c4, rfl, hv4, _⟩ := HO4.out.view
          have hv4' := hv4.parts
          rw [HPS.out.1] at hv4'
          have hpl : ps.length = m := by rw [← hv4'.1]; exact HPL.out
          rw [hpl] at hv4' ⊢
          have HV4 : Hid (View 1 VB w4 x4 m c4 P) := hv4'
          have HP4 : Hid (View 1 VU w4 pa m pc ms) := HP3.out.old stays_u hB4
          have HB4 : Hid (View 1 VB w4 b k cb xs) := HB3.out.old stays_b hB4
          have hB04 : Below w.heap.size w w4 := hB03.trans (hB4.mono hB03.size)
          have HPB : Hid (∀ p ∈ P, Bs p) := hv4'.bs
          obtain ⟨K, hK⟩ : ∃ K, K = keyB P := ⟨_, rfl⟩
          have HK : Hid (K = keyB P) := hK
          have HX2 : Hid (∀ p ∈ P, p.length ≤ 65535) := fun p hp => Nat.le_trans (HPX.out p hp) (by omega)
          have hkl : K.length ≤ 20060 := by
            have := keyB_len HPX.out (by rw [HPL.out]; omega)
            rw [HPL.out, ← hK] at this
            omega
          have HKB : Hid (Bs K) := by rw [hK]; exact keyB_bs HPB.out
          have HPAR : Hid (((0, P) : Int × List (List Int)) = partsA K) := by show _ = _; rw [hK, keyB, if_neg (by rw [HPL.out]; omega), partsA_key HX2.out]
          clear hK hv4 hv4' hpl HO4 HPS hB4 HP3 HB3 HV3 hB03 HPK
          go_wp2_with fail
          refine (key_any HV4.out (by omega) (by omega) HX2.out HK.out).mono ?_
          rintro e w5 ⟨v5, rfl, HO5, hB5⟩
          obtain ⟨x5, c5, rfl, hI5, _⟩ := HO5.out.isB0 HKB.out
          have HI5 : Hid (IsB w5 x5 K.length c5 K) := hI5
          have HP5 : Hid (View 1 VU w5 pa m pc ms) := HP4.out.old stays_u hB5
          have HB5 : Hid (View 1 VB w5 b k cb xs) := HB4.out.old stays_b hB5
          have hB05 : Below w.heap.size w w5 := hB04.trans (hB5.mono hB04.size)
          clear hI5 HO5 hB5 HP4 HB4 hB04 HV4
          go_wp2_with fail
          refine (parts_any HI5.out (by omega) HPAR.out).mono ?_
          rintro e w6 ⟨v6, rfl, HO6, hB6⟩
          obtain ⟨x6, c6, rfl, hV6, _⟩ := HO6.out.view
          have HV6 : Hid (View 1 VB w6 x6 m c6 P) := by have := hV6; rw [show ((0, P) : Int × List (List Int)).2.length = m from HPL.out] at this; exact this
          rw [show ((0, P) : Int × List (List Int)).2.length = m from HPL.out]
          have HP6 : Hid (View 1 VU w6 pa m pc ms) := HP5.out.old stays_u hB6
          have HB6 : Hid (View 1 VB w6 b k cb xs) := HB5.out.old stays_b hB6
          have hB06 : Below w.heap.size w w6 := hB05.trans (hB6.mono hB05.size)
          have hc6 : m ≤ c6 := HV6.out.2.1
          have hc6m : c6 ≤ 9223372036854775807 := HV6.out.2.2.1
          have hpc : m ≤ pc := HP6.out.2.1
          have hpcm : pc ≤ 9223372036854775807 := HP6.out.2.2.1
          obtain ⟨w7, hw7⟩ : ∃ w7, w7 = wr := ⟨_, rfl⟩
          subst hw7
          clear hV6 HO6 hB6 HP5 HB5 hB05 HI5
          go_wp2_with fail
          go_loopw [16] (fun i wr => ∃ i1 q : Nat, i1 ≤ m ∧ i = .int .i64 i1 ∧ wr = w6.drewN q) (fun i _ => m - (intOf i).toNat)
          case atStart => exact ⟨0, 0, by omega, rfl, rfl⟩
          case round =>
            obtain ⟨i1, q, hi1, rfl, rfl⟩ := hrel
            by_cases hlt3 : i1 < m
            · obtain ⟨g6, o6, a6, l6, cp6, hg6, hgs6, hc6', hI6, hl61, hl62, hl63⟩ := HV6.out.at hlt3
              obtain ⟨gp, op, hgp, hgps, hcp'⟩ := HP6.out.u16 hlt3
              obtain ⟨j1, hj1⟩ := Int.eq_ofNat_of_zero_le (HMM.out (ms.getD i1 default) (by rw [List.getD_eq_getElem?_getD, List.getElem?_eq_getElem (by rw [HML.out]; exact hlt3)]; exact List.getElem_mem _)).1.1
              have hj2 := (HMM.out (ms.getD i1 default) (by rw [List.getD_eq_getElem?_getD, List.getElem?_eq_getElem (by rw [HML.out]; exact hlt3)]; exact List.getElem_mem _)).2
              have hPA := HPA.out i1 hlt3
              rw [hj1] at hcp' hj2 hPA
              rw [Int.toNat_natCast] at hj2 hPA
              obtain ⟨gb, ob, ab, lb', cpb, hgb, hgbs, hcb', hIb, hlb1, hlb2, hlb3⟩ := HB6.out.at hj2
              rw [← hPA] at hIb
              obtain ⟨X, hX⟩ : ∃ X, X = P.getD i1 default := ⟨_, rfl⟩
              rw [← hX] at hI6 hIb
              obtain ⟨S, hS⟩ : ∃ S, S = strOfNums X := ⟨_, rfl⟩
              have HI6 : Hid (IsB w6 a6 l6 cp6 X) := hI6
              have HIb : Hid (IsB w6 ab lb' cpb X) := hIb
              have cv1 : ∀ n, (convert 24 9 (.slice a6 l6 cp6)).run Try.prog (w6.drewN n) = .ok (.string S) (w6.drewN n) := fun n => by rw [hS]; exact (HI6.out.old (below_drewN (Below.refl _ _) n)).conv
              have cv2 : ∀ n, (convert 24 9 (.slice ab lb' cpb)).run Try.prog (w6.drewN n) = .ok (.string S) (w6.drewN n) := fun n => by rw [hS]; exact (HIb.out.old (below_drewN (Below.refl _ _) n)).conv
              subst hg6 hgp hgb
              clear hX hS hI6 hIb hPA hj1 hl61 hlb1
              go_wp2_with fail
              go_quiet (fail)
              go_wp2_with fail
              go_roundw
              case rel => exact ⟨i1 + 1, q + nq, by omega, by go_num, by simp⟩
              case measure => simp [intOf]; omega
            · obtain rfl : i1 = m := by omega
              go_wp2_with fail
              go_ret
              exact ⟨rfl, below_drewN hB06 q⟩

theorem vals_any (a : Option Addr) (la ca : Nat) (ns : List Int) (b : Option Addr) (lb cb : Nat) (xs : List (List Int)) (w : World) (ha : View 1 VU w a la ca ns) (hn : ∀ n ∈ ns, 0 ≤ n ∧ n ≤ 65535) (hb : View 1 VB w b lb cb xs) :
    Calls Try.prog 8 #[.slice a la ca, .slice b lb cb] w fun e w' => e = .returned (.bool true) ∧ Below w.heap.size w w' := by
  have h1 : la ≤ 9223372036854775807 := Nat.le_trans ha.2.1 ha.2.2.1
  have h2 : lb ≤ 9223372036854775807 := Nat.le_trans hb.2.1 hb.2.2.1
  by_cases h : 2 ≤ la ∧ la ≤ 20 ∧ lb ≠ 0 ∧ lb ≤ 20
  · exact vals_walk a la ca ns b lb cb xs w ha hn hb h.1 h.2.1 h.2.2.1 h.2.2.2
  · exact vals_pass a la ca b lb cb w h1 h2 (by omega)
end Go.Proofs.Ytfkhcgkobffpiaa
