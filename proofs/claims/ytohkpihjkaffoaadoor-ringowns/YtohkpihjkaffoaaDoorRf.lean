/-
  The document's side: who has a text, the place of a token, the owner, the walk; places as the model has them; two rows of texts held against each other.
-/
import Derived.Test.YtohkpihjkaffoaaDoorNw
namespace Go.Proofs.YtohkpihjkaffoaaDoor
open Go.RowKit Go.Lib Go.Shelf Go.Sort
set_option maxRecDepth 100000
set_option linter.unusedVariables false
set_option linter.unusedSimpArgs false

theorem hasH_take {A : List ByteArray} {s : ByteArray} (h : ∀ j, j < A.length → A.getD j default ≠ s) : hasH A s = false := by
  rw [hasH_no]
  intro hm
  obtain ⟨j, hj, e⟩ := mem_getD hm
  exact h j hj e

theorem has_any {w : World} {a : Option Addr} {len cap : Nat} {A : List ByteArray} (h : View 1 VS w a len cap A) {s : ByteArray} {r : Bool} (hr : r = hasH A s) :
    Calls Tryd.prog 29 #[.slice a len cap, .string s] w fun e w' => e = .returned (.bool r) ∧ w' = w := by
  have H : Hid (View 1 VS w a len cap A) := h
  have HL : Hid (A.length = len) := h.1
  have HR : Hid (r = hasH A s) := hr
  have hc1 := h.2.1
  have hc2 : cap ≤ 9223372036854775807 := h.2.2.1
  clear h hr
  go_enter Tryd.func29, Tryd.ntmps29
  go_wp2_with fail
  go_loopw [5] (fun i wr => ∃ (k : Nat), k ≤ len ∧ i = .int .i64 k ∧ wr = w ∧ Hid (∀ j, j < k → A.getD j default ≠ s)) (fun i _ => len - (intOf i).toNat)
  case atStart => exact ⟨0, by omega, rfl, rfl, fun j hj => by omega⟩
  case round =>
    obtain ⟨k, hk, rfl, rfl, HJ⟩ := hrel
    by_cases hlt : k < len
    · obtain ⟨b, off, ha, hb, hc⟩ := H.out.str hlt
      subst ha
      obtain ⟨x, hx⟩ : ∃ x, x = A.getD k default := ⟨_, rfl⟩
      rw [← hx] at hc
      by_cases hxy : x = s
      · have HT : Hid (r = true) := by
          show _ = _
          rw [HR.out, hasH_iff, ← hxy, hx]
          exact getD_mem (by rw [HL.out]; exact hlt)
        subst hxy
        clear hx HJ
        go_wp2_with fail
        go_ret
        exact ⟨by rw [HT.out]; rfl, rfl⟩
      · have HJ2 : Hid (∀ j, j < k + 1 → A.getD j default ≠ s) := fun j hj => by
          by_cases e : j = k
          · subst e; rw [← hx]; exact hxy
          · exact HJ.out j (by omega)
        have hne : (x.toList == s.toList) = false := by
          rw [beq_eq_false_iff_ne]
          exact fun e => hxy (str_of_list e)
        clear hx HJ
        go_wp2_with fail
        go_roundw
        case rel => exact ⟨k + 1, by omega, by go_num, trivial, HJ2⟩
        case measure => simp [intOf]; omega
    · have HT : Hid (r = false) := by
        show _ = _
        rw [HR.out]
        exact hasH_take (fun j hj => HJ.out j (by have := HL.out; omega))
      go_wp2_with fail
      go_ret
      exact ⟨by rw [HT.out]; rfl, rfl⟩

theorem refAt_any {w : World} {a : Option Addr} {len cap : Nat} {ps : List Pl} (h : View 2 VP w a len cap ps) (hs : Str ps) {t : Int} {r : Nat} (hr : r = fstN ps t) :
    Calls Tryd.prog 27 #[.slice a len cap, .int .i64 t] w fun e w' => e = .returned (.int .i64 r) ∧ w' = w := by
  have H : Hid (View 2 VP w a len cap ps) := h
  have HL : Hid (ps.length = len) := h.1
  have HR : Hid (r = fstN ps t) := hr
  have HS : Hid (Str ps) := hs
  have hc1 := h.2.1
  have hc2 : cap ≤ 9223372036854775807 := h.2.2.1
  clear h hr hs
  go_enter Tryd.func27, Tryd.ntmps27
  go_wp2_with fail
  go_loopw [5] (fun i wr => ∃ (k : Nat), k ≤ len ∧ i = .int .i64 k ∧ wr = w ∧ Hid (∀ j, j < k → (ps.getD j default).1 < t)) (fun i _ => len - (intOf i).toNat)
  case atStart => exact ⟨0, by omega, rfl, rfl, fun j hj => by omega⟩
  case round =>
    obtain ⟨k, hk, rfl, rfl, HJ⟩ := hrel
    by_cases hlt : k < len
    · obtain ⟨b, off, ha, hb, hc, _⟩ := H.out.pl hlt
      subst ha
      obtain ⟨x, hx⟩ : ∃ x, x = (ps.getD k default).1 := ⟨_, rfl⟩
      rw [← hx] at hc
      by_cases hxy : t ≤ x
      · have HT : Hid (r = k) := by
          show _ = _
          have := atN_is HS.out t (i := k) (by rw [HL.out]; omega) HJ.out (fun _ => by rw [← hx]; exact hxy)
          rw [HR.out]; unfold fstN
          rw [this, Nat.mod_eq_of_lt (by rw [HL.out]; exact hlt)]
        clear hx HJ
        go_wp2_with fail
        go_ret
        exact ⟨by rw [HT.out]; rfl, rfl⟩
      · have HJ2 : Hid (∀ j, j < k + 1 → (ps.getD j default).1 < t) := fun j hj => by
          by_cases e : j = k
          · subst e; rw [← hx]; omega
          · exact HJ.out j (by omega)
        clear hx HJ
        go_wp2_with fail
        go_roundw
        case rel => exact ⟨k + 1, by omega, by go_num, trivial, HJ2⟩
        case measure => simp [intOf]; omega
    · have HT : Hid (r = 0) := by
        show _ = _
        have hkl : k = ps.length := by have := HL.out; omega
        have := atN_is HS.out t (i := k) (by omega) HJ.out (fun h => by omega)
        rw [HR.out]; unfold fstN
        rw [this, hkl, Nat.mod_self]
      go_wp2_with fail
      go_ret
      exact ⟨by rw [HT.out]; rfl, rfl⟩

theorem refOwner_any {w : World} {a : Option Addr} {len cap : Nat} {ps : List Pl} (h : View 2 VP w a len cap ps) (hs : Str ps) {t : Int} {o : ByteArray} (ho : o = ownV ps t) :
    Calls Tryd.prog 14 #[.slice a len cap, .int .i64 t] w fun e w' => e = .returned (.string o) ∧ w' = w := by
  have H : Hid (View 2 VP w a len cap ps) := h
  have HL : Hid (ps.length = len) := h.1
  have hc1 := h.2.1
  have hc2 : cap ≤ 9223372036854775807 := h.2.2.1
  by_cases hp : 0 < len
  · obtain ⟨k, hk⟩ : ∃ k, k = fstN ps t := ⟨_, rfl⟩
    have hkl : k < len := by rw [hk, ← HL.out]; exact fstN_lt t (by rw [HL.out]; exact hp)
    obtain ⟨b, off, ha, hb, _, hc⟩ := h.pl hkl
    subst ha
    have e : (ps.getD k default).2 = o := by rw [ho, ownV_pos (by rw [HL.out]; exact hp), hk]; rfl
    rw [e] at hc
    have HA : Hid (Calls Tryd.prog 27 #[.slice (some ⟨b, off, none⟩) len cap, .int .i64 t] w fun e w' => e = .returned (.int .i64 k) ∧ w' = w) := refAt_any h hs hk
    have hn0 : ¬ len = 0 := by omega
    clear h hs ho hk e
    go_enter Tryd.func14, Tryd.ntmps14
    go_wp2_with (go_at_call 27; refine HA.out.mono ?_; rintro e w' ⟨rfl, rfl⟩)
    go_ret
    exact ⟨rfl, rfl⟩
  · obtain rfl : len = 0 := by omega
    obtain rfl : o = ⟨#[]⟩ := by rw [ho]; exact if_pos HL.out
    clear h hs ho
    go_enter Tryd.func14, Tryd.ntmps14
    go_wp2_with fail
    go_ret
    exact ⟨rfl, rfl⟩

set_option maxHeartbeats 400000 in
theorem refWalk_any {w : World} {a : Option Addr} {len cap : Nat} {ps : List Pl} (h : View 2 VP w a len cap ps) (hl : len ≤ 400000) (hs : Str ps) {t : Int} :
    Calls Tryd.prog 17 #[.slice a len cap, .int .i64 t] w fun e w' => ∃ v, e = .returned v ∧ Hid (Own 9 1 VS w' (fun k => w.heap.size ≤ k) v (walkL ps t)) ∧ Below w.heap.size w w' := by
  have H : Hid (View 2 VP w a len cap ps) := h
  have HL : Hid (ps.length = len) := h.1
  have hc1 := h.2.1
  have hc2 : cap ≤ 9223372036854775807 := h.2.2.1
  obtain ⟨k, hk⟩ : ∃ k, k = fstN ps t := ⟨_, rfl⟩
  have HK : Hid (fstN ps t = k) := hk.symm
  have HA : Hid (Calls Tryd.prog 27 #[.slice a len cap, .int .i64 t] w fun e w' => e = .returned (.int .i64 k) ∧ w' = w) := refAt_any h hs hk
  have hkl : 0 < len → k < len := fun hp => by rw [hk, ← HL.out]; exact fstN_lt t (by rw [HL.out]; exact hp)
  clear h hs hk
  go_enter Tryd.func17, Tryd.ntmps17
  go_wp2_with (go_at_call 27; refine HA.out.mono ?_; rintro e w' ⟨rfl, rfl⟩)
  go_loopw [5, 7] (fun v i wr => ∃ (m : Nat), m ≤ len ∧ i = .int .i64 m ∧ (∃ x n c, v = .slice x n c) ∧ Hid (Own 9 1 VS wr (fun k => w'.heap.size ≤ k) v (ddG [] (hsts ((rot ps k).take m)))) ∧ Below w'.heap.size w' wr) (fun _ i _ => len - (intOf i).toNat)
  case atStart => exact ⟨0, by omega, rfl, ⟨_, _, _, rfl⟩, own_nil _ _ _ _ _, Below.refl _ _⟩
  case round =>
    obtain ⟨m, hm, rfl, ⟨xv, nv, cv, rfl⟩, HO, hB⟩ := hrel
    by_cases hlt : m < len
    · have hkl' := hkl (by omega)
      obtain ⟨p, hp⟩ : ∃ p, p = (k + m) % len := ⟨_, rfl⟩
      have hpl : p < len := by rw [hp]; exact Nat.mod_lt _ (by omega)
      obtain ⟨b, off, ha, hb, _, c1⟩ := H.out.pl hpl
      subst ha
      obtain ⟨s, hs⟩ : ∃ s, s = (ps.getD p default).2 := ⟨_, rfl⟩
      rw [← hs] at c1
      have d1 : wr.cell? ⟨b, off + p * 2 + 1, none⟩ = some (.string s) := (hB.cell (p := ⟨b, off + p * 2 + 1, none⟩) hb).trans c1
      have hrem : ((k : Int) + (m : Int)).tmod (len : Int) = (p : Int) := by rw [hp, ← Int.natCast_add, ← Int.ofNat_tmod]
      have hn0 : ¬ len = 0 := by omega
      have hp0 : (0 : Int) ≤ (p : Int) := by omega
      have hp1 : (p : Int) < (len : Int) := by omega
      obtain ⟨acc, hacc⟩ : ∃ acc, acc = ddG [] (hsts ((rot ps k).take m)) := ⟨_, rfl⟩
      rw [← hacc] at HO
      have hal : acc.length ≤ m := by
        rw [hacc]
        have := ddG_len (hsts ((rot ps k).take m)) []
        simp only [hsts, List.length_map, List.length_take, List.length_nil] at this ⊢
        omega
      have HN : Hid (ddG [] (hsts ((rot ps k).take (m + 1))) = addH acc s) := by
        show _ = _
        rw [take_hsts (by rw [rot_length, HL.out]; exact hlt), ddG_snoc, ← hacc, rot_getD (by rw [HL.out]; exact hkl') (by rw [HL.out]; exact hlt), HL.out, ← hp, hs]
      obtain ⟨x0, c0', hv0, hV0, _⟩ := HO.out.view
      cases hv0
      have HV0 : Hid (View 1 VS wr xv acc.length cv acc) := hV0
      clear hacc hp hs c1 hV0
      by_cases hin : hasH acc s = true
      · have HE : Hid (ddG [] (hsts ((rot ps k).take (m + 1))) = acc) := by show _ = _; rw [HN.out]; exact if_pos hin
        have HH : Hid (Calls Tryd.prog 29 #[.slice xv acc.length cv, .string s] wr fun e w' => e = .returned (.bool true) ∧ w' = wr) := has_any HV0.out hin.symm
        go_wp2_with (go_at_call 29; refine HH.out.mono ?_; rintro e w' ⟨rfl, rfl⟩)
        go_roundw
        case rel => exact ⟨m + 1, by omega, by go_num, ⟨_, _, _, rfl⟩, by show Own _ _ _ _ _ _ _; rw [HE.out]; exact HO.out, hB⟩
        case measure => simp [intOf]; omega
      · have hin' : hasH acc s = false := by simpa using hin
        have HE : Hid (ddG [] (hsts ((rot ps k).take (m + 1))) = acc ++ [s]) := by show _ = _; rw [HN.out]; exact if_neg hin
        have HH : Hid (Calls Tryd.prog 29 #[.slice xv acc.length cv, .string s] wr fun e w' => e = .returned (.bool false) ∧ w' = wr) := has_any HV0.out hin'.symm
        have HO3 : Hid (Own 9 1 VS (wr.alloc (.cells #[.string s] 9)) (fun k => w'.heap.size ≤ k) (.slice xv acc.length cv) acc) := HO.out.old stays_s (below_one wr _)
        have HBN : Hid ((wr.alloc (.cells #[.string s] 9)).heap[wr.heap.size]? = some (.cells [Value.string s].toArray 9 (0, 0))) := heap_alloc_new wr _
        have HM : Hid (acc.length + 1 ≤ maxLen ∧ (acc.length + 1) * 16 ≤ 140737488355328) := by
          show _ ∧ _
          unfold maxLen; omega
        have hbs := hB.size
        clear hin hin'
        go_wp2_with (first
          | (go_at_call 29; refine HH.out.mono ?_; rintro e wz ⟨rfl, rfl⟩)
          | (at_builtin; refine wpList_append_item rfl (.tmp 32) (.tmp 34) 39 rfl stays_s elem_s rfl HO3.out rfl HBN.out rfl ?c1 s rfl ?c2 ?c3 HM.out.1 HM.out.2 ?_)
          | go_in)
        case c1 => intro u hu; simp at hu; subst hu; rfl
        case c2 => intro j k hj hk; obtain rfl : j = 0 := by omega
                   simp [Value.ownBlock] at hk
        case c3 => simp; omega
        intro v3 w3 ho3 hK3 hat3
        have HO4 : Hid (Own 9 1 VS w3 (fun k => w'.heap.size ≤ k) v3 (ddG [] (hsts ((rot ps k).take (m + 1))))) := by
          show Own _ _ _ _ _ _ _
          rw [HE.out]; exact ho3
        have hB03 : Below w'.heap.size w' w3 := (hB.alloc hbs _).trans (hK3.below (by simp; omega) (fun k _ e => (HO3.out.lt k e).1))
        obtain ⟨x4, n4, c4, rfl⟩ := ho3.shape
        clear ho3 hK3 hat3 HO3 HO HH HBN
        go_wp2_with fail
        go_roundw
        case rel => exact ⟨m + 1, by omega, by go_num, ⟨_, _, _, rfl⟩, HO4, hB03⟩
        case measure => simp [intOf]; omega
    · have HE : Hid (Own 9 1 VS wr (fun k => w'.heap.size ≤ k) (.slice xv nv cv) (walkL ps t)) := by
        show Own _ _ _ _ _ _ _
        have e : walkL ps t = ddG [] (hsts ((rot ps k).take m)) := by
          unfold walkL
          rw [HK.out, List.take_of_length_le (by rw [rot_length, HL.out]; omega)]
        rw [e]; exact HO.out
      clear HO
      go_wp2_with fail
      go_ret
      exact ⟨_, rfl, HE, hB⟩

set_option maxHeartbeats 400000 in
/-- Places as the model has them. -/
theorem model_any {w : World} {a : Option Addr} {len cap : Nat} {zs : List Pl} (h : View 2 VP w a len cap zs) (hl : len ≤ 1000000) :
    Calls Tryd.prog 11 #[.slice a len cap] w fun e w' => ∃ v, e = .returned v ∧ Hid (Own 34 2 VP w' (fun k => w.heap.size ≤ k) v zs) ∧ Below w.heap.size w w' := by
  have H : Hid (View 2 VP w a len cap zs) := h
  have HL : Hid (zs.length = len) := h.1
  have hc1 := h.2.1
  have hc2 : cap ≤ 9223372036854775807 := h.2.2.1
  clear h
  go_enter Tryd.func11, Tryd.ntmps11
  go_wp2_with fail
  go_loopw [3, 4] (fun v i wr => ∃ (k : Nat), k ≤ len ∧ i = .int .i64 k ∧ (∃ x n c, v = .slice x n c) ∧ Hid (Own 34 2 VP wr (fun k => w.heap.size ≤ k) v (zs.take k)) ∧ Below w.heap.size w wr) (fun _ i _ => len - (intOf i).toNat)
  case atStart => exact ⟨0, by omega, rfl, ⟨_, _, _, rfl⟩, own_nil _ _ _ _ _, Below.refl _ _⟩
  case round =>
    obtain ⟨k, hk, rfl, ⟨xv, nv, cv, rfl⟩, HO, hB⟩ := hrel
    by_cases hlt : k < len
    · obtain ⟨b, off, ha, hb, c0, c1⟩ := H.out.pl hlt
      subst ha
      obtain ⟨⟨t, s⟩, hp⟩ : ∃ p, p = zs.getD k default := ⟨_, rfl⟩
      rw [← hp] at c0 c1
      have d0 : wr.cell? ⟨b, off + k * 2, none⟩ = some (.int .i64 t) := (hB.cell (p := ⟨b, off + k * 2, none⟩) hb).trans c0
      have d1 : wr.cell? ⟨b, off + k * 2 + 1, none⟩ = some (.string s) := (hB.cell (p := ⟨b, off + k * 2 + 1, none⟩) hb).trans c1
      have HN : Hid (zs.take k ++ [(t, s)] = zs.take (k + 1)) := by
        show _ = _
        rw [List.take_add_one, hp, List.getD_eq_getElem?_getD, List.getElem?_eq_getElem (by rw [HL.out]; exact hlt)]; rfl
      have hbs := hB.size
      have hk0 : (0 : Int) ≤ (k : Int) := by omega
      have hk1 : (k : Int) < (len : Int) := by omega
      have HO2 : Hid (Own 34 2 VP (wr.drew.alloc (.cells #[.int .i64 t, .string s] 34)) (fun k => w.heap.size ≤ k) (.slice xv nv cv) (zs.take k)) := HO.out.old stays_p ((Below.refl _ _).drew.alloc (Nat.le_refl _) _)
      have HBN : Hid ((wr.drew.alloc (.cells #[.int .i64 t, .string s] 34)).heap[wr.heap.size]? = some (.cells [Value.int .i64 t, Value.string s].toArray 34 (0, 0))) := heap_alloc_new wr.drew _
      have HM : Hid ((zs.take k).length + 1 ≤ maxLen ∧ ((zs.take k).length + 1) * 24 ≤ 140737488355328) := by
        show _ ∧ _
        rw [List.length_take]
        unfold maxLen; omega
      have HC1 : Hid (∀ u ∈ [Value.int .i64 t, Value.string s], u.oneCell' = true) := by
        intro u hu; simp at hu; rcases hu with rfl | rfl <;> rfl
      have HC2 : Hid (∀ j k, j < 2 → ([Value.int .i64 t, Value.string s].getD j default).ownBlock = some k → k < (wr.drew.alloc (.cells #[.int .i64 t, .string s] 34)).heap.size ∧ (Value.slice xv nv cv).ownBlock ≠ some k ∧ w.heap.size ≤ k) := by
        intro j k hj hk
        rcases (by omega : j = 0 ∨ j = 1) with rfl | rfl <;> simp [Value.ownBlock] at hk
      have HC3 : Hid (w.heap.size ≤ (wr.drew.alloc (.cells #[.int .i64 t, .string s] 34)).heap.size) := by show _ ≤ _; simp; omega
      have HE0 : Hid (∀ w3, Kept (fun k => (Value.slice xv nv cv).ownBlock = some k) (wr.drew.alloc (.cells #[.int .i64 t, .string s] 34)) w3 → w3.cell? ⟨b, off + k * 2, none⟩ = some (.int .i64 t) ∧ w3.cell? ⟨b, off + k * 2 + 1, none⟩ = some (.string s) ∧ Below w.heap.size w w3) := by
        intro w3 hK
        have hBd : Below w.heap.size w (wr.drew.alloc (.cells #[.int .i64 t, .string s] 34)) := hB.drew.alloc (by simp; omega) _
        have hnb : ¬ (Value.slice xv nv cv).ownBlock = some b := fun e => by have := (HO.out.lt b e).1; omega
        have hb2 : b < (wr.drew.alloc (.cells #[.int .i64 t, .string s] 34)).heap.size := by simp; omega
        exact ⟨(hK.cell (p := ⟨b, off + k * 2, none⟩) hb2 hnb).trans ((hBd.cell (p := ⟨b, off + k * 2, none⟩) hb).trans c0), (hK.cell (p := ⟨b, off + k * 2 + 1, none⟩) hb2 hnb).trans ((hBd.cell (p := ⟨b, off + k * 2 + 1, none⟩) hb).trans c1), hBd.trans (hK.below HC3.out (fun k _ e => (HO2.out.lt k e).1))⟩
      clear hp
      go_wp2_with fail
      go_region_held3 (fun W => W.cell? ⟨b, off + k * 2, none⟩ = some (.int .i64 t) ∧ W.cell? ⟨b, off + k * 2 + 1, none⟩ = some (.string s)) (first | assumption | (refine ⟨?_, ?_⟩ <;> first | assumption | go_keep)) (first
        | (refine step_append_item rfl (.tmp 11) (.tmp 23) 28 (by rfl) stays_p elem_q (by rfl) HO2.out (by rfl) HBN.out (by rfl) HC1.out (t, s) ⟨rfl, rfl⟩ HC2.out HC3.out HM.out.1 HM.out.2 ?_; intro v3 w3 ho3 hK3 hat3; obtain ⟨g0, g1, hB3⟩ := HE0.out w3 hK3; rw [HN.out] at ho3; have HO3 : Hid (Own 34 2 VP w3 (fun k => w.heap.size ≤ k) v3 (zs.take (k + 1))) := ho3; obtain ⟨x4, n4, c4, rfl⟩ := ho3.shape; clear ho3 hK3 hat3))
      clear HO2 HBN HC1 HC2 HC3 HE0 HO
      go_wp2_with fail
      go_roundw
      case rel => exact ⟨k + 1, by omega, by go_num, ⟨_, _, _, rfl⟩, HO3, hB3⟩
      case measure => simp [intOf]; omega
    · have HE : Hid (Own 34 2 VP wr (fun k => w.heap.size ≤ k) (.slice xv nv cv) zs) := by
        have := HO.out
        rw [List.take_of_length_le (by rw [HL.out]; omega)] at this
        exact this
      clear HO
      go_wp2_with fail
      go_ret
      exact ⟨_, rfl, HE, hB⟩
end Go.Proofs.YtohkpihjkaffoaaDoor
