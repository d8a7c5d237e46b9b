/-
  The closure that takes a part off a key; the contract of routing.Parts.
-/
import Derived.Test.YtfkhcgkobffpiaaBx
import Derived.Laws.EntriesVeiled
namespace Go.Proofs.Ytfkhcgkobffpiaa
open Go.RowKit
set_option maxRecDepth 100000
set_option linter.unusedVariables false
set_option linter.unusedSimpArgs false

theorem block_lt {w : World} {p : Nat} {o : Obj} (h : w.heap[p]? = some o) : p < w.heap.size := (Array.getElem?_eq_some_iff.1 h).1

theorem one_cell {w : World} {p : Nat} {x : Value} {t : TypeId} (h : w.heap[p]? = some (.cells #[x] t (0, 0))) : w.cell? ⟨p, 0, none⟩ = some x ∧ w.frozen? ⟨p, 0, none⟩ = false := by
  refine ⟨?_, ?_⟩ <;> simp [World.cell?, World.frozen?, h]

theorem one_set {w : World} {p : Nat} {x : Value} {t : TypeId} (h : w.heap[p]? = some (.cells #[x] t (0, 0))) (u : Value) : (w.setCell ⟨p, 0, none⟩ u).heap[p]? = some (.cells #[u] t (0, 0)) := by
  have hlt := block_lt h
  have h' : w.heap[p] = .cells #[x] t (0, 0) := by simpa [Array.getElem?_eq_getElem hlt] using h
  show (w.heap.modify p _)[p]? = _
  rw [Array.getElem?_eq_getElem (by simpa using hlt), Array.getElem_modify_self, h']
  rfl

theorem oneP_few {zs : List Int} (h : zs.length < 2) : oneP zs = (10, [], 0) := by rw [oneP, if_pos h]
theorem oneP_less {zs : List Int} {n : Nat} (h : 2 ≤ zs.length) (hn : numTo zs 2 = n) (h2 : zs.length < 2 + n + 1) : oneP zs = (10, [], 0) := by
  rw [oneP, if_neg (by omega), hn, Int.toNat_natCast, if_pos h2]
theorem oneP_yes {zs : List Int} {n : Nat} (hn : numTo zs 2 = n) (h2 : 2 + n + 1 ≤ zs.length) (hz : zs.getD (2 + n) 0 = 0) : oneP zs = (0, (zs.drop 2).take n, 2 + n + 1) := by
  rw [oneP, if_neg (by omega), hn, Int.toNat_natCast, if_neg (by omega), if_pos hz]
theorem oneP_form {zs : List Int} {n : Nat} (hn : numTo zs 2 = n) (h2 : 2 + n + 1 ≤ zs.length) (hz : zs.getD (2 + n) 0 ≠ 0) : oneP zs = (11, [], 0) := by
  rw [oneP, if_neg (by omega), hn, Int.toNat_natCast, if_neg (by omega), if_neg hz]

theorem numTo_one (zs : List Int) (h : 0 < zs.length) : numTo zs 1 = zs.getD 0 0 := by
  rw [numTo_succ zs 0 h, List.getD_eq_getElem?_getD]
  simp [numTo]

/-- What the closure's two variables hold: what is left of the key, and the parts that are off. -/
structure PSt (W : World) (B : Nat) (r : Option Addr) (lr cr : Nat) (zs : List Int) (v : Value) (acc : List (List Int)) : Prop where
  lt : B + 1 < W.heap.size
  boxP : W.heap[B]? = some (.cells #[v] 22 (0, 0))
  boxR : W.heap[B + 1]? = some (.cells #[.slice r lr cr] 24 (0, 0))
  rest : IsB W r lr cr zs
  old : ∀ p, r = some p → 0 < lr → p.block < B
  own : Own 24 1 VB W (fun k => B + 2 ≤ k) v acc

theorem PSt.row {W : World} {B : Nat} {r : Option Addr} {lr cr : Nat} {zs : List Int} {v : Value} {acc : List (List Int)} (h : PSt W B r lr cr zs v acc) (hp : 0 < lr) : ∃ b off, r = some ⟨b, off, none⟩ ∧ b < B ∧ BRow W b off lr cr zs := by
  obtain ⟨b, off, rfl, hR⟩ := h.rest.2.2.2.2 hp
  exact ⟨b, off, rfl, h.old _ rfl hp, hR⟩

/-- A new world in which nothing old has turned. -/
theorem PSt.later {W W' : World} {B : Nat} {r : Option Addr} {lr cr : Nat} {zs : List Int} {v : Value} {acc : List (List Int)} (h : PSt W B r lr cr zs v acc) (hB : Below W.heap.size W W') : PSt W' B r lr cr zs v acc :=
  ⟨Nat.lt_of_lt_of_le h.lt hB.size, (hB.block _ (block_lt h.boxP)).trans h.boxP, (hB.block _ (block_lt h.boxR)).trans h.boxR, h.rest.old hB, h.old, h.own.old stays_b hB⟩

/-- The part is laid behind the others, and both variables are stored. -/
theorem PSt.next {W W3 W6 : World} {B : Nat} {r : Option Addr} {lr cr : Nat} {zs : List Int} {v : Value} {acc : List (List Int)} (h : PSt W B r lr cr zs v acc) (hB : Below W.heap.size W W3) {v' : Value} {acc' : List (List Int)}
    (ho : Own 24 1 VB W6 (fun k => B + 2 ≤ k) v' acc') (hK : Kept (fun k => v.ownBlock = some k) W3 W6) {b off : Nat} {l c : Nat} {ys : List Int} (hb : b < B) (hR : BRow W3 b off l c ys) :
    W6.cell? ⟨B, 0, none⟩ = some v ∧ W6.frozen? ⟨B, 0, none⟩ = false ∧ (W6.setCell ⟨B, 0, none⟩ v').cell? ⟨B + 1, 0, none⟩ = some (.slice r lr cr) ∧ (W6.setCell ⟨B, 0, none⟩ v').frozen? ⟨B + 1, 0, none⟩ = false ∧
    PSt ((W6.setCell ⟨B, 0, none⟩ v').setCell ⟨B + 1, 0, none⟩ (.slice (some ⟨b, off, none⟩) l c)) B (some ⟨b, off, none⟩) l c ys v' acc' ∧
    Below B W ((W6.setCell ⟨B, 0, none⟩ v').setCell ⟨B + 1, 0, none⟩ (.slice (some ⟨b, off, none⟩) l c)) := by
  have h3 := h.later hB
  have hP6 : W6.heap[B]? = some (.cells #[v] 22 (0, 0)) := (hK.block B (block_lt h3.boxP) (fun e => by have := (h3.own.lt B e).1; omega)).trans h3.boxP
  have hR6 : W6.heap[B + 1]? = some (.cells #[.slice r lr cr] 24 (0, 0)) := (hK.block (B + 1) (block_lt h3.boxR) (fun e => by have := (h3.own.lt (B + 1) e).1; omega)).trans h3.boxR
  have hP7 := one_set hP6 v'
  have hR7 : (W6.setCell ⟨B, 0, none⟩ v').heap[B + 1]? = some (.cells #[.slice r lr cr] 24 (0, 0)) := by rw [Below.heap_setCell _ _ _ _ (by simp)]; exact hR6
  have hR8 := one_set hR7 (.slice (some ⟨b, off, none⟩) l c)
  have hP8 : ((W6.setCell ⟨B, 0, none⟩ v').setCell ⟨B + 1, 0, none⟩ (.slice (some ⟨b, off, none⟩) l c)).heap[B]? = some (.cells #[v'] 22 (0, 0)) := by rw [Below.heap_setCell _ _ _ _ (by simp)]; exact hP7
  have hK8 : Kept (fun k => k = B ∨ k = B + 1) W6 ((W6.setCell ⟨B, 0, none⟩ v').setCell ⟨B + 1, 0, none⟩ (.slice (some ⟨b, off, none⟩) l c)) :=
    ((Kept.refl _ W6).setCell (p := ⟨B, 0, none⟩) (fun _ => .inl rfl) _).setCell (p := ⟨B + 1, 0, none⟩) (fun _ => .inr rfl) _
  have hlt6 : B + 1 < W6.heap.size := block_lt hR6
  obtain ⟨c1, c2⟩ := one_cell hP6
  obtain ⟨c3, c4⟩ := one_cell hR7
  have hI6 : IsB W6 (some ⟨b, off, none⟩) l c ys := hR.isB.kept hK (fun p e hl => by cases e; intro e2; have := (h3.own.lt b e2).1; omega)
  refine ⟨c1, c2, c3, c4, ⟨by have := hK8.size; omega, hP8, hR8, hI6.kept hK8 (fun p e _ => by cases e; show ¬ (b = B ∨ b = B + 1); omega), fun p e _ => by cases e; exact hb, ho.kept stays_b hK8 (fun k _ hk e => by omega)⟩, ?_⟩
  have hA : Below B W W3 := hB.mono (by have := h.lt; omega)
  have hA6 : Below B W3 W6 := hK.below (by have := h3.lt; omega) (fun k _ e => by have := (h3.own.lt k e).1; omega)
  exact (hA.trans hA6).trans (hK8.below (by omega) (fun k _ e => by omega))

set_option maxHeartbeats 2000000 in
theorem take_off {w : World} {B : Nat} {r : Option Addr} {lr cr : Nat} {zs : List Int} {v : Value} {acc : List (List Int)} (h : PSt w B r lr cr zs v acc) (hp : 0 < lr) (hsm : lr ≤ 1000000) (ha : acc.length ≤ 1000000) {Y : Int × List Int × Nat} (hY : Y = oneP zs) :
    Calls Try.prog 23 #[.pointer (some ⟨B + 1, 0, none⟩), .pointer (some ⟨B, 0, none⟩)] w fun e w' => e = .returned (.int .i64 Y.1) ∧ Below B w w' ∧
      Hid (Y.1 = 0 → ∃ r' lr' cr' v', PSt w' B r' lr' cr' (zs.drop Y.2.2) v' (acc ++ [Y.2.1])) := by
  obtain ⟨b, off, rfl, hbB, hR⟩ := h.row hp
  have HZ : Hid (zs.length = lr) := h.rest.1
  have HS : Hid (PSt w B (some ⟨b, off, none⟩) lr cr zs v acc) := h
  have hcR := (one_cell h.boxR).1
  have HR : Hid (BRow w b off lr cr zs) := hR
  have hBw : B ≤ w.heap.size := by have := h.lt; omega
  have HY : Hid (Y = oneP zs) := hY
  clear h hY
  by_cases h2 : lr < 2
  · have HE : Hid (Y.1 = 10) := by show _ = _; rw [HY.out, oneP_few (by rw [HZ.out]; exact h2)]
    go_enter Try.func23, Try.ntmps23
    go_wp2_with fail
    refine (bget_short _ _ _ 2 _ (by omega) (by omega) h2 _ rfl).mono ?_
    rintro e w1 ⟨rfl, rfl⟩
    go_wp2_with fail
    go_ret
    exact ⟨by rw [HE.out]; rfl, Below.refl _ _, fun e => by rw [HE.out] at e; omega⟩
  · obtain ⟨n, hn⟩ := Int.eq_ofNat_of_zero_le (numTo_bound zs hR.rng 2 (by rw [hR.len_eq]; omega)).1
    have HN : Hid (numTo zs 2 = n) := hn
    clear hR hn
    go_enter Try.func23, Try.ntmps23
    go_wp2_with fail
    refine (bget HR.out 2 (by omega) (by omega) (by omega) _ rfl).mono ?_
    rintro e w1 ⟨off1, rfl, hR1, hB1⟩
    rw [HN.out]
    have HR1 : Hid (BRow w1 b off1 (lr - 2) (cr - 2) (zs.drop 2)) := hR1
    have HB1 : Hid (Below w.heap.size w w1) := hB1
    clear hR1 hB1
    by_cases h3 : lr - 2 < n
    · have HE : Hid (Y.1 = 10) := by show _ = _; rw [HY.out, oneP_less (by rw [HZ.out]; omega) HN.out (by rw [HZ.out]; omega)]
      go_wp2_with fail
      refine (btake_short _ _ _ _ _ (by unfold maxLen; omega) (by omega)).mono ?_
      rintro e w2 ⟨rfl, rfl⟩
      go_wp2_with fail
      go_ret
      exact ⟨by rw [HE.out]; rfl, HB1.out.mono hBw, fun e => by rw [HE.out] at e; omega⟩
    · go_wp2_with fail
      refine (btake HR1.out n (by omega) (by omega) _ rfl).mono ?_
      rintro e w2 ⟨off2, rfl, hT, hR2, hB2, hs2⟩
      rw [List.drop_drop] at hR2
      obtain ⟨g, hg⟩ : ∃ g, g = w1.heap.size := ⟨_, rfl⟩
      rw [← hg] at hT hs2 ⊢
      have hg1 : w1.heap.size ≤ g := by omega
      have HT : Hid (BRow w2 g 0 n n ((zs.drop 2).take n)) := hT
      have HR2 : Hid (BRow w2 b off2 (lr - 2 - n) (cr - 2 - n) (zs.drop (2 + n))) := hR2
      have HB2 : Hid (Below w.heap.size w w2) := HB1.out.trans (hB2.mono HB1.out.size)
      have hgB : B + 2 ≤ g := by have := HB1.out.size; have := HS.out.lt; omega
      clear hT hR2 hB2 hg
      by_cases h4 : lr - 2 - n < 1
      · have HE : Hid (Y.1 = 10) := by show _ = _; rw [HY.out, oneP_less (by rw [HZ.out]; omega) HN.out (by rw [HZ.out]; omega)]
        go_wp2_with fail
        refine (bget_short _ _ _ 1 _ (by omega) (by omega) h4 _ rfl).mono ?_
        rintro e w3 ⟨rfl, rfl⟩
        go_wp2_with fail
        go_ret
        exact ⟨by rw [HE.out]; rfl, HB2.out.mono hBw, fun e => by rw [HE.out] at e; omega⟩
      · go_wp2_with fail
        refine (bget HR2.out 1 (by omega) (by omega) (by omega) _ rfl).mono ?_
        rintro e w3 ⟨off3, rfl, hR3, hB3⟩
        rw [List.drop_drop] at hR3
        have hz : numTo (zs.drop (2 + n)) 1 = zs.getD (2 + n) 0 := by
          rw [numTo_one _ (by rw [List.length_drop, HZ.out]; omega), List.getD_eq_getElem?_getD, List.getD_eq_getElem?_getD, List.getElem?_drop, Nat.add_zero]
        rw [hz]
        obtain ⟨z, hzz⟩ : ∃ z, z = zs.getD (2 + n) 0 := ⟨_, rfl⟩
        rw [← hzz]
        have HZZ : Hid (z = zs.getD (2 + n) 0) := hzz
        have HR3 : Hid (BRow w3 b off3 (lr - 2 - n - 1) (cr - 2 - n - 1) (zs.drop (2 + n + 1))) := hR3
        have HB3 : Hid (Below w.heap.size w w3) := HB2.out.trans (hB3.mono HB2.out.size)
        have HT3 : Hid (BRow w3 g 0 n n ((zs.drop 2).take n)) := HT.out.old hB3
        have hg3 : g < w3.heap.size := Nat.lt_of_lt_of_le hs2 hB3.size
        clear hR3 hB3 hz hzz
        by_cases h5 : z = 0
        · have HE : Hid (Y = (0, (zs.drop 2).take n, 2 + n + 1)) := by show _ = _; rw [HY.out, oneP_yes HN.out (by rw [HZ.out]; omega) (by rw [← HZZ.out]; exact h5)]
          subst h5
          have HS3 : Hid (PSt w3 B (some ⟨b, off, none⟩) lr cr zs v acc) := HS.out.later HB3.out
          have hcP3 := (one_cell HS3.out.boxP).1
          have HO2 : Hid (Own 24 1 VB (w3.alloc (.cells #[.slice (some ⟨g, 0, none⟩) n n] 24)) (fun k => B + 2 ≤ k) v acc) := HS3.out.own.old stays_b (below_one w3 _)
          have HBN : Hid ((w3.alloc (.cells #[.slice (some ⟨g, 0, none⟩) n n] 24)).heap[w3.heap.size]? = some (.cells [Value.slice (some ⟨g, 0, none⟩) n n].toArray 24 (0, 0))) := heap_alloc_new w3 _
          have HM : Hid (acc.length + 1 ≤ maxLen ∧ (acc.length + 1) * 24 ≤ 140737488355328) := by
            show _ ∧ _
            unfold maxLen; omega
          have HV : Hid (VB (w3.alloc (.cells #[.slice (some ⟨g, 0, none⟩) n n] 24)) ((zs.drop 2).take n) (fun j => [Value.slice (some ⟨g, 0, none⟩) n n].getD j default)) := ⟨_, _, _, rfl, (HT3.out.isB).old (below_one w3 _)⟩
          have HF : Hid (∀ k, v.ownBlock = some k → k ≠ g) := fun k e he => by
            have := HS.out.own.lt k e
            have := HB1.out.size
            omega
          go_wp2_with (at_builtin; refine wpList_append_item rfl (.tmp 38) (.tmp 40) 22 rfl stays_b elem_b rfl HO2.out rfl HBN.out rfl ?c1 _ HV.out ?c2 ?c3 HM.out.1 HM.out.2 ?_)
          case c1 => intro u hu; simp at hu; subst hu; rfl
          case c2 =>
            intro j k hj hk
            obtain rfl : j = 0 := by omega
            simp [Value.ownBlock] at hk
            subst hk
            exact ⟨by simp; omega, fun e => HF.out _ e rfl, hgB⟩
          case c3 => have := HS3.out.lt; simp; omega
          intro v4 w4 ho4 hK4 hat4
          obtain ⟨x4, n4, c4', rfl⟩ := ho4.shape
          have hBA : Below w.heap.size w (w3.alloc (.cells #[.slice (some ⟨g, 0, none⟩) n n] 24)) := HB3.out.trans ((below_one w3 _).mono HB3.out.size)
          obtain ⟨c1, c2, c3, c4, hS8, hB8⟩ := HS.out.next hBA ho4 hK4 hbB (HR3.out.old (below_one w3 _))
          have HS8 : Hid _ := hS8
          have HB8 : Hid _ := hB8
          clear hS8 hB8 ho4 hK4 hat4 HO2 HBN HV HS3 HT3 HR3
          go_wp2_with fail
          go_ret
          refine ⟨by rw [HE.out]; rfl, HB8.out, fun _ => ?_⟩
          rw [HE.out]
          exact ⟨_, _, _, _, HS8.out⟩
        · have HE : Hid (Y.1 = 11) := by show _ = _; rw [HY.out, oneP_form HN.out (by rw [HZ.out]; omega) (by rw [← HZZ.out]; exact h5)]
          have hz0 : (z != 0) = true := by simpa using h5
          go_wp2_with fail
          go_ret
          exact ⟨by rw [HE.out]; rfl, HB3.out.mono hBw, fun e => by rw [HE.out] at e; omega⟩

/-- How many bytes are left, as the memory has it. -/
def leftOf (R : Nat) (w : World) : Nat := match w.cell? ⟨R, 0, none⟩ with | some (.slice _ l _) => l | _ => 0

theorem PSt.left {W : World} {B : Nat} {r : Option Addr} {lr cr : Nat} {zs : List Int} {v : Value} {acc : List (List Int)} (h : PSt W B r lr cr zs v acc) : leftOf (B + 1) W = lr := by
  rw [leftOf, (one_cell h.boxR).1]

set_option maxHeartbeats 2000000 in
theorem parts_any {w : World} {a : Option Addr} {len cap : Nat} {zs : List Int} (h : IsB w a len cap zs) (hl : len ≤ 1000000) {Y : Int × List (List Int)} (hY : Y = partsA zs) :
    Calls Try.prog 15 #[.slice a len cap] w fun e w' => ∃ v, e = .returned (.tuple #[v, .int .i64 Y.1]) ∧ Hid (Own 24 1 VB w' (fun k => w.heap.size ≤ k) v Y.2) ∧ Below w.heap.size w w' := by
  have HI : Hid (IsB w a len cap zs) := h
  have HY : Hid (partsR zs.length zs [] = Y) := by show _ = _; rw [hY]; rfl
  have HZ : Hid (zs.length = len) := h.1
  have HS0 : Hid (PSt ((w.alloc (.cells #[.slice none 0 0] 22)).alloc (.cells #[.slice a len cap] 24)) w.heap.size a len cap zs (.slice none 0 0) []) := by
    have e1 : (w.alloc (.cells #[.slice none 0 0] 22)).heap.size = w.heap.size + 1 := by simp
    have hB1 : Below w.heap.size w (w.alloc (.cells #[.slice none 0 0] 22)) := below_one w _
    have hB2 : Below w.heap.size w ((w.alloc (.cells #[.slice none 0 0] 22)).alloc (.cells #[.slice a len cap] 24)) := hB1.alloc (by simp) _
    refine ⟨by simp, ?_, ?_, h.old hB2, fun p e hp => ?_, own_nil _ _ _ _ _⟩
    · rw [(below_one (w.alloc (.cells #[.slice none 0 0] 22)) _).block _ (by simp)]
      exact heap_alloc_new w _
    · have := heap_alloc_new (w.alloc (.cells #[.slice none 0 0] 22)) (.cells #[.slice a len cap] 24)
      rw [e1] at this
      exact this
    · obtain ⟨b, off, e2, hR⟩ := h.2.2.2.2 hp
      rw [e2] at e
      cases e
      exact hR.lt hp
  have HB0 : Hid (Below w.heap.size w ((w.alloc (.cells #[.slice none 0 0] 22)).alloc (.cells #[.slice a len cap] 24))) := (below_one w _).alloc (by simp) _
  clear h hY
  go_enter Try.func15, Try.ntmps15
  go_wp2_with fail
  go_loopw [7] (fun _ wr => ∃ f r lr cr ys v acc, lr + acc.length ≤ len ∧ Hid (PSt wr w.heap.size r lr cr ys v acc ∧ Below w.heap.size w wr ∧ partsR f ys acc = Y ∧ ys.length ≤ f)) (fun _ wr => leftOf (w.heap.size + 1) wr)
  case atStart => exact ⟨_, a, len, cap, zs, _, [], by simp, HS0.out, HB0.out, HY.out, Nat.le_refl _⟩
  case round =>
    obtain ⟨f, r, lr, cr, ys, v, acc, hla, HR⟩ := hrel
    have hc := (one_cell HR.out.1.boxR).1
    have HL : Hid (ys.length = lr) := HR.out.1.rest.1
    by_cases hp : 0 < lr
    · obtain ⟨X, hX⟩ : ∃ X, X = oneP ys := ⟨_, rfl⟩
      have HX : Hid (X = oneP ys) := hX
      clear hX
      go_wp2_with fail
      refine (take_off HR.out.1 hp (by omega) (by omega) HX.out).mono ?_
      rintro e w2 ⟨rfl, hB2, HN⟩
      have hB02 : Below w.heap.size w w2 := HR.out.2.1.trans hB2
      clear hB2
      by_cases he : X.1 = 0
      · obtain ⟨r', lr', cr', v', hS'⟩ := HN.out he
        have HS' : Hid _ := hS'
        have HO : Hid ((oneP ys).1 = 0) := by show _ = _; rw [← HX.out]; exact he
        have HLL : Hid (lr' + 3 ≤ lr) := by
          have h1 := hS'.rest.1
          have h2 := oneP_done HO.out
          rw [HX.out, List.length_drop, HL.out] at h1
          rw [HL.out] at h2
          show _ ≤ _
          omega
        have hlr := HLL.out
        have HP : Hid (partsR (f - 1) (ys.drop X.2.2) (acc ++ [X.2.1]) = Y) := by show _ = _; rw [HX.out]; exact partsR_step HR.out.2.2.1 HR.out.2.2.2 (by rw [HL.out]; exact hp) HO.out
        clear hS' HN
        rw [he]
        go_wp2_with fail
        go_roundw
        case rel => exact ⟨f - 1, r', lr', cr', _, v', _, by simp; omega, HS'.out, hB02, HP.out, by have := oneP_done HO.out; have := HR.out.2.2.2; rw [HX.out]; simp; omega⟩
        case measure => rw [HS'.out.left, HR.out.1.left]; omega
      · have HE : Hid (Y = (X.1, [])) := by
          show _ = _
          rw [HX.out]
          exact partsR_stop HR.out.2.2.1 HR.out.2.2.2 (by rw [HL.out]; exact hp) (by rw [← HX.out]; exact he)
        have t : (X.1 != 0) = true := by simpa using he
        go_wp2_with fail
        go_ret2
        exact ⟨_, by rw [HE.out]; rfl, by rw [HE.out]; exact own_nil _ _ _ _ _, hB02⟩
    · obtain rfl : lr = 0 := by omega
      have HE : Hid (Y = (0, acc)) := partsR_end HR.out.2.2.1 HL.out
      have hc2 := (one_cell HR.out.1.boxP).1
      have HO : Hid (Own 24 1 VB wr (fun k => w.heap.size ≤ k) v acc) := HR.out.1.own.wide (fun k _ hk => by omega)
      have hBr : Below w.heap.size w wr := HR.out.2.1
      go_wp2_with fail
      go_ret2
      exact ⟨_, by rw [HE.out]; rfl, by rw [HE.out]; exact HO, hBr⟩
end Go.Proofs.Ytfkhcgkobffpiaa
