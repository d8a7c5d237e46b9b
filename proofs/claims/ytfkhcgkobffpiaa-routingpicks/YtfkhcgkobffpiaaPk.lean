/-
  The contract of routing.Pick.
-/
import Derived.Test.YtfkhcgkobffpiaaBx
namespace Go.Proofs.Ytfkhcgkobffpiaa
open Go.RowKit
set_option maxRecDepth 100000
set_option linter.unusedVariables false
set_option linter.unusedSimpArgs false

/-- The parts at places among values, behind those that are picked already; the error. -/
def pickR (vs : List (Int × List Int)) : List Int → List (List Int) → Int × List (List Int)
  | [], acc => (0, acc)
  | n :: r, acc => if n.toNat < vs.length ∧ (vs.getD n.toNat default).1 = 2 then pickR vs r (acc ++ [(vs.getD n.toNat default).2]) else (1, [])

theorem pickR_step {vs : List (Int × List Int)} {ns : List Int} {k : Nat} {acc : List (List Int)} {Y : Int × List (List Int)} (h : pickR vs (ns.drop k) acc = Y) (hk : k < ns.length) (he : (ns.getD k default).toNat < vs.length ∧ (vs.getD (ns.getD k default).toNat default).1 = 2) :
    pickR vs (ns.drop (k + 1)) (acc ++ [(vs.getD (ns.getD k default).toNat default).2]) = Y := by
  rw [List.getD_eq_getElem?_getD (l := ns), List.getElem?_eq_getElem hk, Option.getD_some] at *
  rw [List.drop_eq_getElem_cons hk, pickR, if_pos he] at h
  exact h
theorem pickR_stop {vs : List (Int × List Int)} {ns : List Int} {k : Nat} {acc : List (List Int)} {Y : Int × List (List Int)} (h : pickR vs (ns.drop k) acc = Y) (hk : k < ns.length) (he : ¬ ((ns.getD k default).toNat < vs.length ∧ (vs.getD (ns.getD k default).toNat default).1 = 2)) : Y = (1, []) := by
  rw [List.getD_eq_getElem?_getD (l := ns), List.getElem?_eq_getElem hk, Option.getD_some] at *
  rw [List.drop_eq_getElem_cons hk, pickR, if_neg he] at h
  exact h.symm
theorem pickR_end {vs : List (Int × List Int)} {ns : List Int} {k : Nat} {acc : List (List Int)} {Y : Int × List (List Int)} (h : pickR vs (ns.drop k) acc = Y) (hk : ns.length ≤ k) : Y = (0, acc) := by
  rw [List.drop_eq_nil_of_le hk, pickR] at h
  exact h.symm

theorem pickR_all (vs : List (Int × List Int)) : ∀ (ns : List Int) (acc : List (List Int)), (∀ n ∈ ns, n.toNat < vs.length ∧ (vs.getD n.toNat default).1 = 2) → pickR vs ns acc = (0, acc ++ ns.map fun n => (vs.getD n.toNat default).2)
  | [], acc, _ => by simp [pickR]
  | n :: r, acc, h => by
    rw [pickR, if_pos (h n (by simp)), pickR_all vs r _ (fun m hm => h m (by simp [hm]))]
    simp

theorem pickR_bad (vs : List (Int × List Int)) : ∀ (ns : List Int) (acc : List (List Int)), (∃ n ∈ ns, ¬ (n.toNat < vs.length ∧ (vs.getD n.toNat default).1 = 2)) → pickR vs ns acc = (1, [])
  | [], acc, h => by obtain ⟨n, hn, _⟩ := h; simp at hn
  | n :: r, acc, h => by
    rw [pickR]
    split
    · rename_i hg
      obtain ⟨m, hm, hb⟩ := h
      rcases List.mem_cons.1 hm with rfl | hm
      · exact absurd hg hb
      · exact pickR_bad vs r _ ⟨m, hm, hb⟩
    · rfl

/-- Bytes in a row of their own, with the block that they lie in. -/
abbrev Pb := Option Nat × List Int
def VO (w : World) (x : Pb) (c : Nat → Value) : Prop := (c 0).ownBlock = x.1 ∧ OwnB w 0 (c 0) x.2.length x.2 ∧ Bs x.2

theorem stays_o : Stays 1 VO := by
  intro w w' S x c c' h hc hK hn
  obtain ⟨h0, h1, h2⟩ := h
  have e := hc 0 (by omega)
  refine ⟨by rw [e]; exact h0, by rw [e]; exact ownsRow_kept h1 hK (fun k hk => hn 0 k (by omega) hk), h2⟩

/-- No two lie in one block. -/
def Apart (ps : List Pb) : Prop := ∀ i j k, i < j → j < ps.length → (ps.getD i default).1 = some k → (ps.getD j default).1 ≠ some k

theorem Apart.nil : Apart [] := fun i j k _ hj => by simp at hj

theorem Apart.snoc {ps : List Pb} (h : Apart ps) {x : Pb} (hx : ∀ i k, i < ps.length → (ps.getD i default).1 = some k → x.1 ≠ some k) : Apart (ps ++ [x]) := by
  intro i j k hij hj hk
  simp only [List.length_append, List.length_singleton] at hj
  have hi : i < ps.length := by omega
  have e1 : (ps ++ [x]).getD i default = ps.getD i default := by rw [List.getD_eq_getElem?_getD, List.getD_eq_getElem?_getD, List.getElem?_append_left hi]
  rw [e1] at hk
  by_cases hj2 : j < ps.length
  · have e2 : (ps ++ [x]).getD j default = ps.getD j default := by rw [List.getD_eq_getElem?_getD, List.getD_eq_getElem?_getD, List.getElem?_append_left hj2]
    rw [e2]
    exact h i j k hij hj2 hk
  · obtain rfl : j = ps.length := by omega
    have e2 : (ps ++ [x]).getD ps.length default = x := by rw [List.getD_eq_getElem?_getD]; simp
    rw [e2]
    exact hx i k hi hk

/-- The blocks of what is owned are there. -/
theorem own_blocks {w : World} {F : Nat → Prop} {v : Value} {ps : List Pb} (h : Own 24 1 VO w F v ps) : ∀ i k, i < ps.length → (ps.getD i default).1 = some k → k < w.heap.size ∧ F k ∧ v.ownBlock ≠ some k := by
  obtain ⟨cs, ho, h1, h2, h3⟩ := h
  intro i k hi hk
  obtain ⟨hv, hb⟩ := h3 i hi
  obtain ⟨a, b, c⟩ := hb 0 k (by omega) (by rw [← hk]; exact hv.1)
  exact ⟨a, c, b⟩

theorem View.parts {w : World} {a : Option Addr} {len cap : Nat} {ps : List Pb} (h : View 1 VO w a len cap ps) : View 1 VB w a len cap (ps.map Prod.snd) := by
  obtain ⟨h1, h2, h3, h4, h5⟩ := h
  refine ⟨by rw [List.length_map]; exact h1, h2, h3, h4, fun hp => ?_⟩
  obtain ⟨b, off, ha, hb, hc⟩ := h5 hp
  refine ⟨b, off, ha, hb, fun i hi => ?_⟩
  obtain ⟨c, hcell, hv1, hv2, hv3⟩ := hc i hi
  obtain ⟨x, cp, e, hI, _⟩ := hv2.isB0 hv3
  refine ⟨c, hcell, x, _, cp, e, ?_⟩
  have e2 : (ps.map Prod.snd).getD i default = (ps.getD i default).2 := by
    rw [List.getD_eq_getElem?_getD, List.getD_eq_getElem?_getD, List.getElem?_map, List.getElem?_eq_getElem (by omega)]
    rfl
  rw [e2]
  exact hI

set_option maxHeartbeats 2000000 in
theorem pick_any {w : World} {pa : Option Addr} {pl pc : Nat} {ns : List Int} {va : Option Addr} {vl vc : Nat} {vs : List (Int × List Int)} (hp : View 1 VU w pa pl pc ns) (hv : View 2 VV w va vl vc vs)
    (hpl : pl ≤ 1000000) (hvl : vl ≤ 1000000) (hn : ∀ n ∈ ns, 0 ≤ n ∧ n ≤ 65535) (hx : ∀ x ∈ vs, x.2.length ≤ 140737488355328) {Y : Int × List (List Int)} (hY : Y = pickR vs ns []) :
    Calls Try.prog 18 #[.slice pa pl pc, .slice va vl vc] w fun e w' => ∃ v ps, e = .returned (.tuple #[v, .int .i64 Y.1]) ∧ Hid (Own 24 1 VO w' (fun k => w.heap.size ≤ k) v ps) ∧ Hid (ps.map Prod.snd = Y.2 ∧ Apart ps) ∧ Below w.heap.size w w' := by
  have HP : Hid (View 1 VU w pa pl pc ns) := hp
  have HV : Hid (View 2 VV w va vl vc vs) := hv
  have HPL : Hid (ns.length = pl) := hp.1
  have HVL : Hid (vs.length = vl) := hv.1
  have hpc : pl ≤ pc := hp.2.1
  have hpm : pc ≤ 9223372036854775807 := hp.2.2.1
  have hvc : vl ≤ vc := hv.2.1
  have hvm : vc ≤ 9223372036854775807 := hv.2.2.1
  have HN : Hid (∀ k, k < pl → 0 ≤ ns.getD k default ∧ ns.getD k default ≤ 65535) := fun k hk => by
    rw [List.getD_eq_getElem?_getD, List.getElem?_eq_getElem (by rw [HPL.out]; exact hk)]
    exact hn _ (List.getElem_mem _)
  have HX : Hid (∀ k, k < vl → (vs.getD k default).2.length ≤ 140737488355328) := fun k hk => by
    rw [List.getD_eq_getElem?_getD, List.getElem?_eq_getElem (by rw [HVL.out]; exact hk)]
    exact hx _ (List.getElem_mem _)
  have HY : Hid (pickR vs (ns.drop 0) [] = Y) := by show _ = _; rw [hY]; rfl
  clear hp hv hn hx hY
  go_enter Try.func18, Try.ntmps18
  go_wp2_with fail
  go_loopw [6, 11] (fun v i wr => ∃ (k : Nat) (ps : List Pb), k ≤ pl ∧ i = .int .i64 k ∧ ps.length = k ∧ Hid (Own 24 1 VO wr (fun k => w.heap.size ≤ k) v ps) ∧ Hid (Apart ps ∧ pickR vs (ns.drop k) (ps.map Prod.snd) = Y) ∧ Below w.heap.size w wr) (fun _ i _ => pl - (intOf i).toNat)
  case atStart => exact ⟨0, [], by omega, rfl, rfl, own_nil _ _ _ _ _, ⟨Apart.nil, HY.out⟩, Below.refl _ _⟩
  case round =>
    obtain ⟨k, ps, hk, rfl, hps, HO, HA, hB⟩ := hrel
    by_cases hlt : k < pl
    · obtain ⟨b, off, hpa, hb, hc0⟩ := HP.out.u16 hlt
      subst hpa
      have hc : wr.cell? ⟨b, off + k, none⟩ = _ := (hB.cell (p := ⟨b, off + k, none⟩) hb).trans hc0
      obtain ⟨m, hm⟩ := Int.eq_ofNat_of_zero_le (HN.out k hlt).1
      have hm2 := (HN.out k hlt).2
      rw [hm] at hc hm2
      have HM : Hid (ns.getD k default = m) := hm
      have hwm : IntKind.i64.wrap (m : Int) = m := by rw [IntKind.wrap_i64]; omega
      clear hc0 hm
      by_cases hmv : m < vl
      · obtain ⟨b2, off2, a', l, cp, hva, hb2, hk0, hs0, hI, hl', hlc, hcm'⟩ := HV.out.val hmv
        subst hva
        obtain ⟨X, hX⟩ : ∃ X, X = (vs.getD m default).2 := ⟨_, rfl⟩
        obtain ⟨K, hK⟩ : ∃ K, K = (vs.getD m default).1 := ⟨_, rfl⟩
        rw [← hX] at hI hl'
        rw [← hK] at hk0
        have hk1 : wr.cell? ⟨b2, off2 + m * 2, none⟩ = some (.int .i64 K) := (hB.cell (p := ⟨b2, off2 + m * 2, none⟩) hb2).trans hk0
        have hs1 : wr.cell? ⟨b2, off2 + m * 2 + 1, none⟩ = some (.slice a' l cp) := (hB.cell (p := ⟨b2, off2 + m * 2 + 1, none⟩) hb2).trans hs0
        have HI : Hid (IsB wr a' l cp X) := hI.old hB
        have HLX : Hid (X.length = l) := hl'.symm
        have HL : Hid (l ≤ 140737488355328) := by show _ ≤ _; rw [hl', hX]; exact HX.out m hmv
        have HBX : Hid (Bs X) := hI.range
        have hml : decide ((vl : Int) ≤ m) = false := by simp; omega
        clear hk0 hs0 hI hl'
        by_cases hK2 : K = 2
        · have HS : Hid (pickR vs (ns.drop (k + 1)) (ps.map Prod.snd ++ [X]) = Y) := by
            have := pickR_step HA.out.2 (by rw [HPL.out]; exact hlt) (by rw [HM.out, Int.toNat_natCast, HVL.out, ← hK]; exact ⟨hmv, hK2⟩)
            rw [HM.out, Int.toNat_natCast, ← hX] at this
            exact this
          subst hK2
          clear hX hK
          go_wp2_with fail
          refine (clone_any HI.out HL.out).mono ?_
          rintro e w1 ⟨v1, rfl, ho1, hB1⟩
          obtain ⟨x1, c1, rfl, hI1, hx1⟩ := ho1.isB0 HBX.out
          have HB1 : Hid (∀ k, (Value.slice x1 l c1).ownBlock = some k → wr.heap.size ≤ k ∧ k < w1.heap.size) := fun k hk => World.ownsRow.lt ho1 k hk
          have HOB : Hid (OwnB (w1.alloc (.cells #[.slice x1 l c1] 24)) 0 (.slice x1 l c1) X.length X) := by rw [HLX.out]; exact (ho1.mono (Nat.zero_le _)).old (below_one w1 _)
          have hbs := hB.size
          have hbs1 := hB1.size
          have hB01 : Below w.heap.size w w1 := hB.trans (hB1.mono hbs)
          have HO2 : Hid (Own 24 1 VO (w1.alloc (.cells #[.slice x1 l c1] 24)) (fun k => w.heap.size ≤ k) u6 ps) := (HO.out.old stays_o hB1).old stays_o (below_one w1 _)
          have HBN : Hid ((w1.alloc (.cells #[.slice x1 l c1] 24)).heap[w1.heap.size]? = some (.cells [Value.slice x1 l c1].toArray 24 (0, 0))) := heap_alloc_new w1 _
          have HMM : Hid (ps.length + 1 ≤ maxLen ∧ (ps.length + 1) * 24 ≤ 140737488355328) := by
            show _ ∧ _
            unfold maxLen; omega
          have HVO : Hid (VO (w1.alloc (.cells #[.slice x1 l c1] 24)) ((Value.slice x1 l c1).ownBlock, X) (fun j => [Value.slice x1 l c1].getD j default)) := ⟨rfl, HOB.out, HBX.out⟩
          have HAP : Hid (Apart (ps ++ [((Value.slice x1 l c1).ownBlock, X)])) := HA.out.1.snoc (fun i k hi hk e => by
            have := (own_blocks HO.out i k hi hk).1
            have := (HB1.out k e).1
            omega)
          have HNB : Hid (∀ k, u6.ownBlock = some k → k < wr.heap.size) := fun k e => (HO.out.lt k e).2
          clear ho1 hI1 hx1 hB1
          go_wp2_with (at_builtin; refine wpList_append_item rfl (.tmp 28) (.tmp 35) 22 rfl stays_o elem_b rfl HO2.out rfl HBN.out rfl ?c1 _ HVO.out ?c2 ?c3 HMM.out.1 HMM.out.2 ?_)
          case c1 => intro u hu; simp at hu; subst hu; rfl
          case c2 =>
            intro j k hj hk
            obtain rfl : j = 0 := by omega
            have h1 := HB1.out k hk
            exact ⟨by simp; omega, fun e => by have := HNB.out k e; omega, by omega⟩
          case c3 => simp; omega
          intro v3 w3 ho3 hK3 hat3
          obtain ⟨x3, n3, c3, rfl⟩ := ho3.shape
          have HO3 : Hid (Own 24 1 VO w3 (fun k => w.heap.size ≤ k) (.slice x3 n3 c3) (ps ++ [((Value.slice x1 l c1).ownBlock, X)])) := ho3
          have hB03 : Below w.heap.size w w3 := (hB01.alloc hB01.size _).trans (hK3.below (by simp; omega) (fun k _ e => (HO2.out.lt k e).1))
          clear ho3 hK3 hat3
          go_wp2_with fail
          go_roundw
          case rel => exact ⟨k + 1, _, by omega, by go_num, by simp [hps], HO3, ⟨HAP.out, by rw [List.map_append]; exact HS.out⟩, hB03⟩
          case measure => simp [intOf]; omega
        · have HE : Hid (Y = (1, [])) := pickR_stop HA.out.2 (by rw [HPL.out]; exact hlt) (by rw [HM.out, Int.toNat_natCast, ← hK]; exact fun e => hK2 e.2)
          have hK0 : (K != 2) = true := by simpa using hK2
          clear hX hK
          go_wp2_with fail
          go_ret2
          exact ⟨_, [], by rw [HE.out]; rfl, own_nil _ _ _ _ _, by rw [HE.out]; exact ⟨rfl, Apart.nil⟩, hB⟩
      · have HE : Hid (Y = (1, [])) := pickR_stop HA.out.2 (by rw [HPL.out]; exact hlt) (by rw [HM.out, Int.toNat_natCast, HVL.out]; exact fun e => hmv e.1)
        have hml : (vl : Int) ≤ m := by omega
        go_wp2_with fail
        go_ret2
        exact ⟨_, [], by rw [HE.out]; rfl, own_nil _ _ _ _ _, by rw [HE.out]; exact ⟨rfl, Apart.nil⟩, hB⟩
    · obtain rfl : k = pl := by omega
      have HE : Hid (Y = (0, ps.map Prod.snd)) := pickR_end HA.out.2 (by rw [HPL.out]; exact Nat.le_refl _)
      go_wp2_with fail
      go_ret2
      exact ⟨_, ps, by rw [HE.out]; rfl, HO, by rw [HE.out]; exact ⟨rfl, HA.out.1⟩, hB⟩
end Go.Proofs.Ytfkhcgkobffpiaa
