/-
  The document's New: each place is laid where its token comes, one by one.
-/
import Derived.Test.YtohkpihjkaffoaaDoorRf
import Derived.Deep.DeepCutAuto
namespace Go.Proofs.YtohkpihjkaffoaaDoor
open Go.RowKit Go.Lib Go.Shelf Go.Sort
set_option maxRecDepth 100000
set_option linter.unusedVariables false
set_option linter.unusedSimpArgs false

def badE (zs : List Pl) : Int := if dupT zs then 11 else 0
theorem newE_bad {zs : List Pl} (h : empH zs = false) : newE zs = badE zs := by unfold newE badE; rw [h]; rfl

theorem take_snoc {zs : List Pl} {k : Nat} (hk : k < zs.length) : zs.take (k + 1) = zs.take k ++ [zs.getD k default] := by
  rw [List.take_add_one, List.getD_eq_getElem?_getD, List.getElem?_eq_getElem hk]; rfl

theorem empH_snoc (zs : List Pl) (p : Pl) : empH (zs ++ [p]) = (empH zs || empB p.2) := by simp [empH]
theorem empH_of {zs : List Pl} {k : Nat} (hk : k < zs.length) (he : empB (zs.getD k default).2 = true) : empH zs = true := by
  unfold empH
  rw [List.any_eq_true]
  exact ⟨_, getD_mem hk, he⟩

theorem ins_perm {out A : List Pl} (hp : out.Perm A) (p : Pl) (m : Nat) : (out.take m ++ [p] ++ out.drop m).Perm (A ++ [p]) := by
  have h1 : (out.take m ++ [p] ++ out.drop m).Perm (out.take m ++ out.drop m ++ [p]) := by
    rw [List.append_assoc, List.append_assoc]
    exact List.Perm.append_left _ List.perm_append_comm
  rw [List.take_append_drop] at h1
  exact h1.trans (hp.append_right _)

theorem getD_take' {l : List Pl} {m i : Nat} (h : i < m) : (l.take m).getD i default = l.getD i default := by
  rw [List.getD_eq_getElem?_getD, List.getD_eq_getElem?_getD, List.getElem?_take, if_pos h]

theorem ins_srt {out : List Pl} (hs : Srt out) (p : Pl) {m : Nat} (hm : m ≤ out.length) (hlow : ∀ j, j < m → (out.getD j default).1 < p.1) (hhigh : m < out.length → p.1 ≤ (out.getD m default).1) : Srt (out.take m ++ [p] ++ out.drop m) := by
  unfold Srt
  have hlo : ∀ a ∈ out.take m, a.1 < p.1 := fun a ha => by
    obtain ⟨i, hi, e⟩ := mem_getD ha
    rw [List.length_take] at hi
    rw [getD_take' (by omega)] at e
    have := hlow i (by omega)
    rw [e] at this; exact this
  have hhi : ∀ b ∈ out.drop m, p.1 ≤ b.1 := fun b hb => by
    obtain ⟨i, hi, e⟩ := mem_getD hb
    rw [List.length_drop] at hi
    rw [List.getD_eq_getElem?_getD, List.getElem?_drop, ← List.getD_eq_getElem?_getD] at e
    have h0 := hhigh (by omega)
    by_cases h : i = 0
    · subst h; rw [Nat.add_zero] at e; rw [e] at h0; exact h0
    · have := srt_getD hs (i := m) (j := m + i) (by omega) (by omega)
      rw [e] at this; omega
  rw [List.pairwise_append, List.pairwise_append]
  refine ⟨⟨List.Pairwise.sublist (List.take_sublist _ _) hs, List.pairwise_singleton _ _, fun a ha b hb => ?_⟩, List.Pairwise.sublist (List.drop_sublist _ _) hs, fun a ha b hb => ?_⟩
  · have := hlo a ha
    simp at hb; subst hb; omega
  · have h2 := hhi b hb
    rcases List.mem_append.1 ha with ha | ha
    · have := hlo a ha; omega
    · simp at ha; subst ha; exact h2

theorem bad_hit {out A : List Pl} (hp : out.Perm A) (p : Pl) {m : Nat} (hm : m < out.length) (he : (out.getD m default).1 = p.1) : badE (A ++ [p]) = 11 := by
  have : dupT (A ++ [p]) = true := by
    have h0 : ¬ dupT (A ++ [p]) = false := by
      rw [dupT_false]
      intro hn
      unfold toks at hn
      rw [List.map_append, List.nodup_append] at hn
      have hmem : (out.getD m default).1 ∈ A.map (·.1) := List.mem_map.2 ⟨_, hp.subset (getD_mem hm), rfl⟩
      exact hn.2.2 _ hmem p.1 (by simp) he
    simpa using h0
  unfold badE; rw [this]; rfl

theorem bad_miss {out A : List Pl} (hs : Srt out) (hp : out.Perm A) (p : Pl) {m : Nat} (hm : m ≤ out.length) (hlow : ∀ j, j < m → (out.getD j default).1 < p.1) (hhigh : m < out.length → p.1 < (out.getD m default).1) : badE (A ++ [p]) = badE A := by
  have : dupT (A ++ [p]) = dupT A := by
    unfold dupT
    congr 1
    rw [decide_eq_decide]
    unfold toks
    rw [List.map_append, List.nodup_append]
    refine ⟨fun h => h.1, fun h => ⟨h, by simp, fun a ha b hb e => ?_⟩⟩
    simp at hb
    subst hb; subst e
    obtain ⟨q, hq, e⟩ := List.mem_map.1 ha
    obtain ⟨i, hi, e2⟩ := mem_getD (hp.symm.subset hq)
    subst e2
    by_cases h1 : i < m
    · have := hlow i h1; omega
    · have h2 := hhigh (by omega)
      by_cases h3 : i = m
      · subst h3; omega
      · have := srt_getD hs (i := m) (j := i) (by omega) hi; omega
  unfold badE; rw [this]

theorem own_shape0 {e : TypeId} {w : World} {F : Nat → Prop} {v : Value} {xs : List Pl} (h : Own e 2 VP w F v xs) (hp : 0 < xs.length) : ∃ g cap, v = .slice (some ⟨g, 0, none⟩) xs.length cap := by
  obtain ⟨cs, ho, _⟩ := h
  rcases ho.2 with ⟨_, h0⟩ | ⟨g, cap, cur, hv, _⟩
  · omega
  · exact ⟨g, cap, hv⟩

theorem _root_.Go.Proofs.YtohkpihjkaffoaaDoor.Own.kept1 {e : TypeId} {w W : World} {F S : Nat → Prop} {v : Value} {xs : List Pl} (hV : Stays 2 VP) (h : Own e 2 VP w F v xs) (hK : Kept S w W) (hn : ∀ k, v.ownBlock = some k → ¬ S k) : Own e 2 VP W F v xs := by
  obtain ⟨b0, ho, rfl⟩ := cells_eq h
  have hF : ∀ k, v.ownBlock = some k → F k := fun k hk => (h.lt k hk).1
  have ho2 := ownsRow_kept ho hK hn
  obtain ⟨cs, q1, q2, q3, q4⟩ := own_cells ho2
  refine ⟨cs, q1, hF, q3, fun i hi => ⟨(q4 i hi).1, fun j k hj hk => ?_⟩⟩
  obtain ⟨g0, g1⟩ := (q4 i hi).1
  rcases (by omega : j = 0 ∨ j = 1) with rfl | rfl
  · simp only [] at g0; rw [g0] at hk; simp [Value.ownBlock] at hk
  · simp only [] at g1; rw [g1] at hk; simp [Value.ownBlock] at hk

/-- What the document's New hands back. -/
def RefR (w' : World) (F : Nat → Prop) (zs : List Pl) (v : Value) : Prop :=
  (newE zs ≠ 0 ∧ v = .slice none 0 0) ∨ (newE zs = 0 ∧ ∃ ps : List Pl, ps.Perm zs ∧ Str ps ∧ Own 34 2 VP w' F v ps)

theorem view_end {w : World} {a : Option Addr} {n cap : Nat} {ps : List Pl} (h : View 2 VP w a n cap ps) (hn : n ≠ 0) : ∃ b off, a = some ⟨b, off, none⟩ := by
  obtain ⟨b, off, e, _⟩ := h.2.2.2.2 (by omega)
  exact ⟨b, off, e⟩

set_option maxHeartbeats 2000000 in
theorem refNew_any {w : World} {a : Option Addr} {len cap : Nat} {zs : List Pl} (h : View 2 VP w a len cap zs) (hl : len ≤ 400000) {er : Int} (he : er = newE zs) :
    Calls Tryd.prog 10 #[.slice a len cap] w fun e w' => ∃ v, e = .returned (.tuple #[v, .int .i64 er]) ∧ Hid (RefR w' (fun k => w.heap.size ≤ k) zs v) ∧ Below w.heap.size w w' := by
  have H : Hid (View 2 VP w a len cap zs) := h
  have HL : Hid (zs.length = len) := h.1
  have HE : Hid (er = newE zs) := he
  have hc1 := h.2.1
  have hc2 : cap ≤ 9223372036854775807 := h.2.2.1
  clear h he
  go_enter Tryd.func10, Tryd.ntmps10
  go_wp2_with fail
  go_loopw [4, 5, 6] (fun v bd i wr => ∃ (k : Nat) (out : List Pl), k ≤ len ∧ i = .int .i64 k ∧ (k = 0 ∧ v = .slice none 0 0 ∨ ∃ g c, v = .slice (some ⟨g, 0, none⟩) k c) ∧ bd = .int .i64 (badE (zs.take k)) ∧ Hid (empH (zs.take k) = false) ∧ Hid (Own 34 2 VP wr (fun k => w.heap.size ≤ k) v out) ∧ Hid (out.Perm (zs.take k)) ∧ Hid (Srt out) ∧ Below w.heap.size w wr) (fun _ _ i _ => len - (intOf i).toNat)
  case atStart => exact ⟨0, [], by omega, rfl, .inl ⟨rfl, rfl⟩, rfl, rfl, own_nil _ _ _ _ _, List.Perm.refl _, List.Pairwise.nil, Below.refl _ _⟩
  case round =>
    obtain ⟨k, out, hk, rfl, hshape, rfl, HEM, HO, HP, HSR, hB⟩ := hrel
    by_cases hlt : k < len
    · obtain ⟨b, off, ha, hb, c0, c1⟩ := H.out.pl hlt
      subst ha
      obtain ⟨⟨t, s⟩, hp⟩ : ∃ p, p = zs.getD k default := ⟨_, rfl⟩
      rw [← hp] at c0 c1
      have d0 : wr.cell? ⟨b, off + k * 2, none⟩ = some (.int .i64 t) := (hB.cell (p := ⟨b, off + k * 2, none⟩) hb).trans c0
      have d1 : wr.cell? ⟨b, off + k * 2 + 1, none⟩ = some (.string s) := (hB.cell (p := ⟨b, off + k * 2 + 1, none⟩) hb).trans c1
      have HT : Hid (zs.take (k + 1) = zs.take k ++ [(t, s)]) := by show _ = _; rw [take_snoc (by rw [HL.out]; exact hlt), hp]
      have hem := emp_eq s
      have hk0 : (0 : Int) ≤ (k : Int) := by omega
      have hk1 : (k : Int) < (len : Int) := by omega
      by_cases hes : empB s = true
      · have HR : Hid (er = 1 ∧ newE zs ≠ 0) := by
          have e : newE zs = 1 := by unfold newE; rw [empH_of (by rw [HL.out]; exact hlt) (by rw [← hp]; exact hes)]; rfl
          exact ⟨by rw [HE.out, e], by rw [e]; omega⟩
        rw [hes] at hem
        clear hp c0 c1 hshape HO HP HSR
        go_wp2_with fail
        go_ret2
        exact ⟨_, by rw [HR.out.1]; rfl, .inl ⟨HR.out.2, rfl⟩, hB⟩
      · have hes' : empB s = false := by simpa using hes
        rw [hes'] at hem
        have HEM2 : Hid (empH (zs.take (k + 1)) = false) := by show _ = _; rw [HT.out, empH_snoc, HEM.out, hes']; rfl
        rcases hshape with ⟨rfl, rfl⟩ | ⟨g, c, rfl⟩
        · obtain rfl : out = [] := by have := HP.out.length_eq; simp at this; exact this
          have HH : Hid (0 < ([] : List Pl).length → t ≤ (([] : List Pl).getD 0 default).1) := fun h => by simp at h
          have HJ : Hid (∀ j, j < 0 → (([] : List Pl).getD j default).1 < t) := fun j hj => by omega
          have HBD : Hid (badE (zs.take (0 + 1)) = 0) := by show _ = _; rw [HT.out]; rfl
          obtain ⟨out, hout⟩ : ∃ out : List Pl, out = [] := ⟨_, rfl⟩
          rw [← hout] at HO HP HSR HH HJ
          have hol : out.length = 0 := by rw [hout]; rfl
          clear hp
          go_wp2_with fail
          refine wp_loop_rounds 1 ?_
          rw [rounds_succ]
          go_wp2_with fail
          go_quiet (fail)
          go_wp2_with fail
          obtain ⟨q1, hq1⟩ : ∃ q1, q1 = nq := ⟨_, rfl⟩
          rw [← hq1]
          clear hq1
          go_quiet (fail)
          obtain ⟨wx, hwx⟩ : ∃ wx, wx = (wr.drewN q1).drewN nq := ⟨_, rfl⟩
          rw [← hwx]
          have hbx : Below wr.heap.size wr wx := by rw [hwx]; exact below_drewN' (below_drewN _ _) _
          have HBx : Hid (Below w.heap.size w wx) := hB.trans (hbx.mono hB.size)
          have HOx : Hid (Own 34 2 VP wx (fun k => w.heap.size ≤ k) (.slice none 0 0) out) := HO.out.old stays_p hbx
          have x0 : wx.cell? ⟨b, off, none⟩ = some (.int .i64 t) := (HBx.out.cell (p := ⟨b, off, none⟩) hb).trans c0
          have x1 : wx.cell? ⟨b, off + 1, none⟩ = some (.string s) := (HBx.out.cell (p := ⟨b, off + 1, none⟩) hb).trans c1
          have hwxs := HBx.out.size
          clear hwx hbx
          go_wp2_with (at_builtin; refine wpList_append_view (ys := out.take 0) rfl (.tmp 57) (.tmp 60) 28 rfl elem_q rfl (own_nil 34 2 VP wx (fun k => w.heap.size ≤ k)) rfl ?b1 (fun _ => ⟨rfl, rfl⟩) (fun ad e => by cases e) ?b2 ?b3 ?_)
          case b1 => simp
          case b2 => exact hwxs
          case b3 => simp
          intro v1 w1 ho1 hK1 hat1
          have hB1 : Below wx.heap.size wx w1 := hK1.below (Nat.le_refl _) (fun k _ e => by simp [Value.ownBlock] at e)
          have HB1 : Hid (Below w.heap.size w w1) := HBx.out.trans (hB1.mono hwxs)
          have y0 : w1.cell? ⟨b, off, none⟩ = some (.int .i64 t) := (HB1.out.cell (p := ⟨b, off, none⟩) hb).trans c0
          have y1 : w1.cell? ⟨b, off + 1, none⟩ = some (.string s) := (HB1.out.cell (p := ⟨b, off + 1, none⟩) hb).trans c1
          have hw1s := HB1.out.size
          have HO1 : Hid (Own 34 2 VP (w1.alloc (.cells #[.int .i64 t, .string s] 34)) (fun k => w.heap.size ≤ k) v1 (out.take 0)) := ho1.old stays_p (below_one _ _)
          have HBN : Hid ((w1.alloc (.cells #[.int .i64 t, .string s] 34)).heap[w1.heap.size]? = some (.cells [Value.int .i64 t, Value.string s].toArray 34 (0, 0))) := heap_alloc_new w1 _
          have HM : Hid ((out.take 0).length + 1 ≤ maxLen ∧ ((out.take 0).length + 1) * 24 ≤ 140737488355328) := by
            show _ ∧ _
            rw [List.length_take]
            unfold maxLen; omega
          have HC1 : Hid (∀ u ∈ [Value.int .i64 t, Value.string s], u.oneCell' = true) := by
            intro u hu; simp at hu; rcases hu with rfl | rfl <;> rfl
          have HC2 : Hid (∀ j k, j < 2 → ([Value.int .i64 t, Value.string s].getD j default).ownBlock = some k → k < (w1.alloc (.cells #[.int .i64 t, .string s] 34)).heap.size ∧ v1.ownBlock ≠ some k ∧ w.heap.size ≤ k) := by
            intro j k hj hk
            rcases (by omega : j = 0 ∨ j = 1) with rfl | rfl <;> simp [Value.ownBlock] at hk
          have HC3 : Hid (w.heap.size ≤ (w1.alloc (.cells #[.int .i64 t, .string s] 34)).heap.size) := by show _ ≤ _; simp; omega
          have HAT : Hid (v1.ownBlock = none ∨ v1.ownBlock = some wx.heap.size) := hat1
          have HBX1 : Hid (Below wx.heap.size wx w1) := hB1
          obtain ⟨xv1, nv1, cv1, rfl⟩ := ho1.shape
          clear ho1 hK1 hB1 hat1
          go_wp2_with (at_builtin; refine wpList_append_item rfl (.tmp 62) (.tmp 67) 28 rfl stays_p elem_q rfl HO1.out rfl HBN.out rfl HC1.out (t, s) ⟨rfl, rfl⟩ HC2.out HC3.out HM.out.1 HM.out.2 ?_)
          intro v2 w2 ho2 hK2 hat2
          have hKx : Kept (fun k => k = wx.heap.size) wx w2 := (kept_of (S := fun _ => False) (HBX1.out.alloc HBX1.out.size _)).trans hK2 (fun i hi e => by
            rcases HAT.out with e2 | e2
            · rw [e2] at e; cases e
            · rw [e2] at e; have := Option.some.inj e; omega) |>.wide (fun k _ e => e.elim)
          have HB2 : Hid (Below w.heap.size w w2) := (HB1.out.alloc hw1s _).trans (hK2.below HC3.out (fun k _ e => (HO1.out.lt k e).1))
          have HO2 : Hid (Own 34 2 VP w2 (fun k => w.heap.size ≤ k) v2 (out.take 0 ++ [(t, s)])) := ho2
          obtain ⟨xv2, nv2, cv2, rfl⟩ := ho2.shape
          have hw2s := HB2.out.size
          clear ho2 hK2 hat2 HC1 HC2 HC3 HBN HO1
          go_wp2_with (at_builtin; refine wpList_append_view (ys := out.drop 0) rfl (.tmp 69) (.tmp 72) 28 rfl elem_q rfl HO2.out rfl ?b4 (fun _ => ⟨rfl, rfl⟩) (fun ad e => by cases e) hw2s ?b5 ?_)
          case b4 => rw [hout]; rfl
          case b5 => rw [hout]; simp
          intro v3 w3 ho3 hK3 hat3
          have HO3 : Hid (Own 34 2 VP w3 (fun k => w.heap.size ≤ k) v3 (out.take 0 ++ [(t, s)] ++ out.drop 0)) := by show Own _ _ _ _ _ _ _; rw [hout]; exact ho3
          have HB3 : Hid (Below w.heap.size w w3) := HB2.out.trans (hK3.below hw2s (fun k _ e => (HO2.out.lt k e).1))
          have HP3 : Hid ((out.take 0 ++ [(t, s)] ++ out.drop 0).Perm (zs.take (0 + 1))) := by show List.Perm _ _; rw [HT.out]; exact ins_perm HP.out _ _
          have HS3 : Hid (Srt (out.take 0 ++ [(t, s)] ++ out.drop 0)) := ins_srt HSR.out (t, s) (by omega) HJ.out HH.out
          obtain ⟨g3, c3, rfl⟩ := own_shape0 HO3.out (by simp)
          have hl3 : (out.take 0 ++ [(t, s)] ++ out.drop 0).length = 0 + 1 := by rw [hout]; rfl
          rw [hl3] at HO3 ⊢
          clear ho3 hK3 hat3 HO2 HO HOx HP
          go_wp2_with fail
          go_roundw
          case rel => exact ⟨0 + 1, _, by omega, by go_num, .inr ⟨g3, c3, by simp⟩, by rw [HBD.out]; rfl, HEM2, HO3, HP3, HS3, HB3.out⟩
          case measure => simp [intOf]; omega
        · have hol : out.length = k := by have := HP.out.length_eq; rw [List.length_take, HL.out] at this; omega
          obtain ⟨x0, c0', hv0, hV0, hV1⟩ := HO.out.view
          rw [hol] at hv0 hV0
          cases hv0
          have HV : Hid (View 2 VP wr (some ⟨g, 0, none⟩) k c out) := hV0
          have q1 := hV0.2.1
          have q2 : c ≤ 9223372036854775807 := hV0.2.2.1
          have hgw : w.heap.size ≤ g ∧ g < wr.heap.size := hV1 _ rfl
          clear hV0 hV1 hp
          go_wp2_with fail
          go_loopw [7] (fun i wc => ∃ (m q : Nat), m ≤ k ∧ i = .int .i64 m ∧ wc = wr.drewN q ∧ Hid (∀ j, j < m → (out.getD j default).1 < t)) (fun i _ => k + 1 - (intOf i).toNat)
          case atStart => exact ⟨0, 0, by omega, rfl, rfl, fun j hj => by omega⟩
          case round =>
            obtain ⟨m, q, hm, rfl, rfl, HJ⟩ := hrel
            by_cases hmk : m < k
            · obtain ⟨g', o', e', _, e0, _⟩ := HV.out.pl hmk
              cases e'
              rw [Nat.zero_add] at e0
              obtain ⟨y, hy⟩ : ∃ y, y = (out.getD m default).1 := ⟨_, rfl⟩
              rw [← hy] at e0
              have hm0 : (0 : Int) ≤ (m : Int) := by omega
              have hm1 : (m : Int) < (k : Int) := by omega
              by_cases hyt : y < t
              · have HJ2 : Hid (∀ j, j < m + 1 → (out.getD j default).1 < t) := fun j hj => by
                  by_cases e : j = m
                  · subst e; rw [← hy]; exact hyt
                  · exact HJ.out j (by omega)
                clear hy HJ
                go_wp2_with fail
                go_quiet (fail)
                go_wp2_with fail
                go_roundw
                case rel => exact ⟨m + 1, q + nq, by omega, by go_num, by simp, HJ2⟩
                case measure => simp [intOf]; omega
              · have HH : Hid (m < out.length → t ≤ (out.getD m default).1) := fun _ => by rw [← hy]; omega
                by_cases hyt2 : y = t
                · have HBD : Hid (badE (zs.take (k + 1)) = 11) := by show _ = _; rw [HT.out]; exact bad_hit HP.out (t, s) (m := m) (by omega) (by rw [← hy]; exact hyt2)
                  subst hyt2
                  clear hy
                  go_wp2_with fail
                  go_quiet (fail)
                  go_wp2_with fail
                  obtain ⟨q1, hq1⟩ : ∃ q1, q1 = q + nq := ⟨_, rfl⟩
                  have hdd : (wr.drewN q).drewN nq = wr.drewN q1 := by rw [hq1]; simp [World.drewN, Nat.add_assoc]
                  rw [hdd]
                  clear hdd
                  clear hq1
                  go_quiet (fail)
                  obtain ⟨wx, hwx⟩ : ∃ wx, wx = (wr.drewN q1).drewN nq := ⟨_, rfl⟩
                  rw [← hwx]
                  have hbx : Below wr.heap.size wr wx := by rw [hwx]; exact below_drewN' (below_drewN _ _) _
                  have HBx : Hid (Below w.heap.size w wx) := hB.trans (hbx.mono hB.size)
                  have HOx : Hid (Own 34 2 VP wx (fun k => w.heap.size ≤ k) (.slice (some ⟨g, 0, none⟩) k c) out) := HO.out.old stays_p hbx
                  have x0 : wx.cell? ⟨b, off + k * 2, none⟩ = some (.int .i64 y) := (HBx.out.cell (p := ⟨b, off + k * 2, none⟩) hb).trans c0
                  have x1 : wx.cell? ⟨b, off + k * 2 + 1, none⟩ = some (.string s) := (HBx.out.cell (p := ⟨b, off + k * 2 + 1, none⟩) hb).trans c1
                  have HVx : Hid (View 2 VP wx (some ⟨g, 0, none⟩) k c out) := HV.out.old stays_p hbx
                  have hwxs := HBx.out.size
                  have hgx : g < wx.heap.size := Nat.lt_of_lt_of_le hgw.2 hbx.size
                  clear hwx hbx
                  go_wp2_with (at_builtin; refine wpList_append_view (ys := out.take m) rfl (.tmp 57) (.tmp 60) 28 rfl elem_q rfl (own_nil 34 2 VP wx (fun k => w.heap.size ≤ k)) rfl ?b1 (fun e => by cases e) (view_some (view_take HVx.out hm)) ?b2 ?b3 ?_)
                  case b1 => simp; omega
                  case b2 => exact hwxs
                  case b3 => simp; omega
                  intro v1 w1 ho1 hK1 hat1
                  have hB1 : Below wx.heap.size wx w1 := hK1.below (Nat.le_refl _) (fun k _ e => by simp [Value.ownBlock] at e)
                  have HB1 : Hid (Below w.heap.size w w1) := HBx.out.trans (hB1.mono hwxs)
                  have y0 : w1.cell? ⟨b, off + k * 2, none⟩ = some (.int .i64 y) := (HB1.out.cell (p := ⟨b, off + k * 2, none⟩) hb).trans c0
                  have y1 : w1.cell? ⟨b, off + k * 2 + 1, none⟩ = some (.string s) := (HB1.out.cell (p := ⟨b, off + k * 2 + 1, none⟩) hb).trans c1
                  have hw1s := HB1.out.size
                  have HO1 : Hid (Own 34 2 VP (w1.alloc (.cells #[.int .i64 y, .string s] 34)) (fun k => w.heap.size ≤ k) v1 (out.take m)) := ho1.old stays_p (below_one _ _)
                  have HBN : Hid ((w1.alloc (.cells #[.int .i64 y, .string s] 34)).heap[w1.heap.size]? = some (.cells [Value.int .i64 y, Value.string s].toArray 34 (0, 0))) := heap_alloc_new w1 _
                  have HM : Hid ((out.take m).length + 1 ≤ maxLen ∧ ((out.take m).length + 1) * 24 ≤ 140737488355328) := by
                    show _ ∧ _
                    rw [List.length_take]
                    unfold maxLen; omega
                  have HC1 : Hid (∀ u ∈ [Value.int .i64 y, Value.string s], u.oneCell' = true) := by
                    intro u hu; simp at hu; rcases hu with rfl | rfl <;> rfl
                  have HC2 : Hid (∀ j k, j < 2 → ([Value.int .i64 y, Value.string s].getD j default).ownBlock = some k → k < (w1.alloc (.cells #[.int .i64 y, .string s] 34)).heap.size ∧ v1.ownBlock ≠ some k ∧ w.heap.size ≤ k) := by
                    intro j k hj hk
                    rcases (by omega : j = 0 ∨ j = 1) with rfl | rfl <;> simp [Value.ownBlock] at hk
                  have HC3 : Hid (w.heap.size ≤ (w1.alloc (.cells #[.int .i64 y, .string s] 34)).heap.size) := by show _ ≤ _; simp; omega
                  have HAT : Hid (v1.ownBlock = none ∨ v1.ownBlock = some wx.heap.size) := hat1
                  have HBX1 : Hid (Below wx.heap.size wx w1) := hB1
                  obtain ⟨xv1, nv1, cv1, rfl⟩ := ho1.shape
                  clear ho1 hK1 hB1 hat1
                  go_wp2_with (at_builtin; refine wpList_append_item rfl (.tmp 62) (.tmp 67) 28 rfl stays_p elem_q rfl HO1.out rfl HBN.out rfl HC1.out (y, s) ⟨rfl, rfl⟩ HC2.out HC3.out HM.out.1 HM.out.2 ?_)
                  intro v2 w2 ho2 hK2 hat2
                  have hKx : Kept (fun k => k = wx.heap.size) wx w2 := (kept_of (S := fun _ => False) (HBX1.out.alloc HBX1.out.size _)).trans hK2 (fun i hi e => by
                    rcases HAT.out with e2 | e2
                    · rw [e2] at e; cases e
                    · rw [e2] at e; have := Option.some.inj e; omega) |>.wide (fun k _ e => e.elim)
                  have HB2 : Hid (Below w.heap.size w w2) := (HB1.out.alloc hw1s _).trans (hK2.below HC3.out (fun k _ e => (HO1.out.lt k e).1))
                  have HO2 : Hid (Own 34 2 VP w2 (fun k => w.heap.size ≤ k) v2 (out.take m ++ [(y, s)])) := ho2
                  have HVd : Hid (View 2 VP w2 (some ⟨g, m * 2, none⟩) (k - m) (c - m) (out.drop m)) := by
                    have hO : Own 34 2 VP w2 (fun k => w.heap.size ≤ k) (.slice (some ⟨g, 0, none⟩) k c) out := HOx.out.kept1 stays_p hKx (fun kk e e2 => by simp [Value.ownBlock] at e; omega)
                    obtain ⟨z0, zc, hz, hzV, _⟩ := hO.view
                    rw [hol] at hz hzV
                    cases hz
                    have := view_drop hzV hm
                    rw [Nat.zero_add] at this
                    exact this
                  obtain ⟨xv2, nv2, cv2, rfl⟩ := ho2.shape
                  have hw2s := HB2.out.size
                  clear ho2 hK2 hat2 HC1 HC2 HC3 HBN HO1
                  go_wp2_with (at_builtin; refine wpList_append_view (ys := out.drop m) rfl (.tmp 69) (.tmp 72) 28 rfl elem_q rfl HO2.out rfl ?b4 (fun e => by cases e) (view_some HVd.out) hw2s ?b5 ?_)
                  case b4 => simp; omega
                  case b5 => simp; omega
                  intro v3 w3 ho3 hK3 hat3
                  have HO3 : Hid (Own 34 2 VP w3 (fun k => w.heap.size ≤ k) v3 (out.take m ++ [(y, s)] ++ out.drop m)) := by show Own _ _ _ _ _ _ _; rw [List.append_assoc]; exact ho3
                  have HB3 : Hid (Below w.heap.size w w3) := HB2.out.trans (hK3.below hw2s (fun k _ e => (HO2.out.lt k e).1))
                  have HP3 : Hid ((out.take m ++ [(y, s)] ++ out.drop m).Perm (zs.take (k + 1))) := by show List.Perm _ _; rw [HT.out]; exact ins_perm HP.out _ _
                  have HS3 : Hid (Srt (out.take m ++ [(y, s)] ++ out.drop m)) := ins_srt HSR.out (y, s) (by omega) HJ.out HH.out
                  obtain ⟨g3, c3, rfl⟩ := own_shape0 HO3.out (by simp; omega)
                  have hl3 : (out.take m ++ [(y, s)] ++ out.drop m).length = k + 1 := by simp; omega
                  rw [hl3] at HO3 ⊢
                  clear ho3 hK3 hat3 HO2 HO HOx HP
                  go_wp2_with fail
                  go_roundw
                  case rel => exact ⟨k + 1, _, by omega, by go_num, .inr ⟨g3, c3, by simp⟩, by rw [HBD.out], HEM2, HO3, HP3, HS3, HB3.out⟩
                  case measure => simp [intOf]; omega
                · have HBD : Hid (badE (zs.take (k + 1)) = badE (zs.take k)) := by show _ = _; rw [HT.out]; exact bad_miss HSR.out HP.out (t, s) (m := m) (by omega) HJ.out (fun _ => by rw [← hy]; omega)
                  have hne : (y == t) = false := by simpa using hyt2
                  clear hy
                  go_wp2_with fail
                  go_quiet (fail)
                  go_wp2_with fail
                  obtain ⟨q1, hq1⟩ : ∃ q1, q1 = q + nq := ⟨_, rfl⟩
                  have hdd : (wr.drewN q).drewN nq = wr.drewN q1 := by rw [hq1]; simp [World.drewN, Nat.add_assoc]
                  rw [hdd]
                  clear hdd
                  clear hq1
                  go_quiet (fail)
                  obtain ⟨wx, hwx⟩ : ∃ wx, wx = (wr.drewN q1).drewN nq := ⟨_, rfl⟩
                  rw [← hwx]
                  have hbx : Below wr.heap.size wr wx := by rw [hwx]; exact below_drewN' (below_drewN _ _) _
                  have HBx : Hid (Below w.heap.size w wx) := hB.trans (hbx.mono hB.size)
                  have HOx : Hid (Own 34 2 VP wx (fun k => w.heap.size ≤ k) (.slice (some ⟨g, 0, none⟩) k c) out) := HO.out.old stays_p hbx
                  have x0 : wx.cell? ⟨b, off + k * 2, none⟩ = some (.int .i64 t) := (HBx.out.cell (p := ⟨b, off + k * 2, none⟩) hb).trans c0
                  have x1 : wx.cell? ⟨b, off + k * 2 + 1, none⟩ = some (.string s) := (HBx.out.cell (p := ⟨b, off + k * 2 + 1, none⟩) hb).trans c1
                  have HVx : Hid (View 2 VP wx (some ⟨g, 0, none⟩) k c out) := HV.out.old stays_p hbx
                  have hwxs := HBx.out.size
                  have hgx : g < wx.heap.size := Nat.lt_of_lt_of_le hgw.2 hbx.size
                  clear hwx hbx
                  go_wp2_with (at_builtin; refine wpList_append_view (ys := out.take m) rfl (.tmp 57) (.tmp 60) 28 rfl elem_q rfl (own_nil 34 2 VP wx (fun k => w.heap.size ≤ k)) rfl ?b1 (fun e => by cases e) (view_some (view_take HVx.out hm)) ?b2 ?b3 ?_)
                  case b1 => simp; omega
                  case b2 => exact hwxs
                  case b3 => simp; omega
                  intro v1 w1 ho1 hK1 hat1
                  have hB1 : Below wx.heap.size wx w1 := hK1.below (Nat.le_refl _) (fun k _ e => by simp [Value.ownBlock] at e)
                  have HB1 : Hid (Below w.heap.size w w1) := HBx.out.trans (hB1.mono hwxs)
                  have y0 : w1.cell? ⟨b, off + k * 2, none⟩ = some (.int .i64 t) := (HB1.out.cell (p := ⟨b, off + k * 2, none⟩) hb).trans c0
                  have y1 : w1.cell? ⟨b, off + k * 2 + 1, none⟩ = some (.string s) := (HB1.out.cell (p := ⟨b, off + k * 2 + 1, none⟩) hb).trans c1
                  have hw1s := HB1.out.size
                  have HO1 : Hid (Own 34 2 VP (w1.alloc (.cells #[.int .i64 t, .string s] 34)) (fun k => w.heap.size ≤ k) v1 (out.take m)) := ho1.old stays_p (below_one _ _)
                  have HBN : Hid ((w1.alloc (.cells #[.int .i64 t, .string s] 34)).heap[w1.heap.size]? = some (.cells [Value.int .i64 t, Value.string s].toArray 34 (0, 0))) := heap_alloc_new w1 _
                  have HM : Hid ((out.take m).length + 1 ≤ maxLen ∧ ((out.take m).length + 1) * 24 ≤ 140737488355328) := by
                    show _ ∧ _
                    rw [List.length_take]
                    unfold maxLen; omega
                  have HC1 : Hid (∀ u ∈ [Value.int .i64 t, Value.string s], u.oneCell' = true) := by
                    intro u hu; simp at hu; rcases hu with rfl | rfl <;> rfl
                  have HC2 : Hid (∀ j k, j < 2 → ([Value.int .i64 t, Value.string s].getD j default).ownBlock = some k → k < (w1.alloc (.cells #[.int .i64 t, .string s] 34)).heap.size ∧ v1.ownBlock ≠ some k ∧ w.heap.size ≤ k) := by
                    intro j k hj hk
                    rcases (by omega : j = 0 ∨ j = 1) with rfl | rfl <;> simp [Value.ownBlock] at hk
                  have HC3 : Hid (w.heap.size ≤ (w1.alloc (.cells #[.int .i64 t, .string s] 34)).heap.size) := by show _ ≤ _; simp; omega
                  have HAT : Hid (v1.ownBlock = none ∨ v1.ownBlock = some wx.heap.size) := hat1
                  have HBX1 : Hid (Below wx.heap.size wx w1) := hB1
                  obtain ⟨xv1, nv1, cv1, rfl⟩ := ho1.shape
                  clear ho1 hK1 hB1 hat1
                  go_wp2_with (at_builtin; refine wpList_append_item rfl (.tmp 62) (.tmp 67) 28 rfl stays_p elem_q rfl HO1.out rfl HBN.out rfl HC1.out (t, s) ⟨rfl, rfl⟩ HC2.out HC3.out HM.out.1 HM.out.2 ?_)
                  intro v2 w2 ho2 hK2 hat2
                  have hKx : Kept (fun k => k = wx.heap.size) wx w2 := (kept_of (S := fun _ => False) (HBX1.out.alloc HBX1.out.size _)).trans hK2 (fun i hi e => by
                    rcases HAT.out with e2 | e2
                    · rw [e2] at e; cases e
                    · rw [e2] at e; have := Option.some.inj e; omega) |>.wide (fun k _ e => e.elim)
                  have HB2 : Hid (Below w.heap.size w w2) := (HB1.out.alloc hw1s _).trans (hK2.below HC3.out (fun k _ e => (HO1.out.lt k e).1))
                  have HO2 : Hid (Own 34 2 VP w2 (fun k => w.heap.size ≤ k) v2 (out.take m ++ [(t, s)])) := ho2
                  have HVd : Hid (View 2 VP w2 (some ⟨g, m * 2, none⟩) (k - m) (c - m) (out.drop m)) := by
                    have hO : Own 34 2 VP w2 (fun k => w.heap.size ≤ k) (.slice (some ⟨g, 0, none⟩) k c) out := HOx.out.kept1 stays_p hKx (fun kk e e2 => by simp [Value.ownBlock] at e; omega)
                    obtain ⟨z0, zc, hz, hzV, _⟩ := hO.view
                    rw [hol] at hz hzV
                    cases hz
                    have := view_drop hzV hm
                    rw [Nat.zero_add] at this
                    exact this
                  obtain ⟨xv2, nv2, cv2, rfl⟩ := ho2.shape
                  have hw2s := HB2.out.size
                  clear ho2 hK2 hat2 HC1 HC2 HC3 HBN HO1
                  go_wp2_with (at_builtin; refine wpList_append_view (ys := out.drop m) rfl (.tmp 69) (.tmp 72) 28 rfl elem_q rfl HO2.out rfl ?b4 (fun e => by cases e) (view_some HVd.out) hw2s ?b5 ?_)
                  case b4 => simp; omega
                  case b5 => simp; omega
                  intro v3 w3 ho3 hK3 hat3
                  have HO3 : Hid (Own 34 2 VP w3 (fun k => w.heap.size ≤ k) v3 (out.take m ++ [(t, s)] ++ out.drop m)) := by show Own _ _ _ _ _ _ _; rw [List.append_assoc]; exact ho3
                  have HB3 : Hid (Below w.heap.size w w3) := HB2.out.trans (hK3.below hw2s (fun k _ e => (HO2.out.lt k e).1))
                  have HP3 : Hid ((out.take m ++ [(t, s)] ++ out.drop m).Perm (zs.take (k + 1))) := by show List.Perm _ _; rw [HT.out]; exact ins_perm HP.out _ _
                  have HS3 : Hid (Srt (out.take m ++ [(t, s)] ++ out.drop m)) := ins_srt HSR.out (t, s) (by omega) HJ.out HH.out
                  obtain ⟨g3, c3, rfl⟩ := own_shape0 HO3.out (by simp; omega)
                  have hl3 : (out.take m ++ [(t, s)] ++ out.drop m).length = k + 1 := by simp; omega
                  rw [hl3] at HO3 ⊢
                  clear ho3 hK3 hat3 HO2 HO HOx HP
                  go_wp2_with fail
                  go_roundw
                  case rel => exact ⟨k + 1, _, by omega, by go_num, .inr ⟨g3, c3, by simp⟩, by rw [HBD.out], HEM2, HO3, HP3, HS3, HB3.out⟩
                  case measure => simp [intOf]; omega
            · obtain rfl : m = k := by omega
              have HH : Hid (m < out.length → t ≤ (out.getD m default).1) := fun h => by omega
              have HBD : Hid (badE (zs.take (m + 1)) = badE (zs.take m)) := by show _ = _; rw [HT.out]; exact bad_miss HSR.out HP.out (t, s) (m := m) (by omega) HJ.out (fun h => by omega)
              have HD0 : Hid (out.drop m = []) := List.drop_eq_nil_of_le (by omega)
              by_cases hcm : c = m
              · go_wp2_with fail
                go_quiet (fail)
                go_wp2_with fail
                obtain ⟨q1, hq1⟩ : ∃ q1, q1 = q + nq := ⟨_, rfl⟩
                have hdd : (wr.drewN q).drewN nq = wr.drewN q1 := by rw [hq1]; simp [World.drewN, Nat.add_assoc]
                rw [hdd]
                clear hdd
                clear hq1
                go_quiet (fail)
                obtain ⟨wx, hwx⟩ : ∃ wx, wx = (wr.drewN q1).drewN nq := ⟨_, rfl⟩
                rw [← hwx]
                have hbx : Below wr.heap.size wr wx := by rw [hwx]; exact below_drewN' (below_drewN _ _) _
                have HBx : Hid (Below w.heap.size w wx) := hB.trans (hbx.mono hB.size)
                have HOx : Hid (Own 34 2 VP wx (fun k => w.heap.size ≤ k) (.slice (some ⟨g, 0, none⟩) m c) out) := HO.out.old stays_p hbx
                have x0 : wx.cell? ⟨b, off + m * 2, none⟩ = some (.int .i64 t) := (HBx.out.cell (p := ⟨b, off + m * 2, none⟩) hb).trans c0
                have x1 : wx.cell? ⟨b, off + m * 2 + 1, none⟩ = some (.string s) := (HBx.out.cell (p := ⟨b, off + m * 2 + 1, none⟩) hb).trans c1
                have HVx : Hid (View 2 VP wx (some ⟨g, 0, none⟩) m c out) := HV.out.old stays_p hbx
                have hwxs := HBx.out.size
                have hgx : g < wx.heap.size := Nat.lt_of_lt_of_le hgw.2 hbx.size
                clear hwx hbx
                go_wp2_with (at_builtin; refine wpList_append_view (ys := out.take m) rfl (.tmp 57) (.tmp 60) 28 rfl elem_q rfl (own_nil 34 2 VP wx (fun k => w.heap.size ≤ k)) rfl ?b1 (fun e => by cases e) (view_some (view_take HVx.out hm)) ?b2 ?b3 ?_)
                case b1 => simp; omega
                case b2 => exact hwxs
                case b3 => simp; omega
                intro v1 w1 ho1 hK1 hat1
                have hB1 : Below wx.heap.size wx w1 := hK1.below (Nat.le_refl _) (fun k _ e => by simp [Value.ownBlock] at e)
                have HB1 : Hid (Below w.heap.size w w1) := HBx.out.trans (hB1.mono hwxs)
                have y0 : w1.cell? ⟨b, off + m * 2, none⟩ = some (.int .i64 t) := (HB1.out.cell (p := ⟨b, off + m * 2, none⟩) hb).trans c0
                have y1 : w1.cell? ⟨b, off + m * 2 + 1, none⟩ = some (.string s) := (HB1.out.cell (p := ⟨b, off + m * 2 + 1, none⟩) hb).trans c1
                have hw1s := HB1.out.size
                have HO1 : Hid (Own 34 2 VP (w1.alloc (.cells #[.int .i64 t, .string s] 34)) (fun k => w.heap.size ≤ k) v1 (out.take m)) := ho1.old stays_p (below_one _ _)
                have HBN : Hid ((w1.alloc (.cells #[.int .i64 t, .string s] 34)).heap[w1.heap.size]? = some (.cells [Value.int .i64 t, Value.string s].toArray 34 (0, 0))) := heap_alloc_new w1 _
                have HM : Hid ((out.take m).length + 1 ≤ maxLen ∧ ((out.take m).length + 1) * 24 ≤ 140737488355328) := by
                  show _ ∧ _
                  rw [List.length_take]
                  unfold maxLen; omega
                have HC1 : Hid (∀ u ∈ [Value.int .i64 t, Value.string s], u.oneCell' = true) := by
                  intro u hu; simp at hu; rcases hu with rfl | rfl <;> rfl
                have HC2 : Hid (∀ j k, j < 2 → ([Value.int .i64 t, Value.string s].getD j default).ownBlock = some k → k < (w1.alloc (.cells #[.int .i64 t, .string s] 34)).heap.size ∧ v1.ownBlock ≠ some k ∧ w.heap.size ≤ k) := by
                  intro j k hj hk
                  rcases (by omega : j = 0 ∨ j = 1) with rfl | rfl <;> simp [Value.ownBlock] at hk
                have HC3 : Hid (w.heap.size ≤ (w1.alloc (.cells #[.int .i64 t, .string s] 34)).heap.size) := by show _ ≤ _; simp; omega
                have HAT : Hid (v1.ownBlock = none ∨ v1.ownBlock = some wx.heap.size) := hat1
                have HBX1 : Hid (Below wx.heap.size wx w1) := hB1
                obtain ⟨xv1, nv1, cv1, rfl⟩ := ho1.shape
                clear ho1 hK1 hB1 hat1
                go_wp2_with (at_builtin; refine wpList_append_item rfl (.tmp 62) (.tmp 67) 28 rfl stays_p elem_q rfl HO1.out rfl HBN.out rfl HC1.out (t, s) ⟨rfl, rfl⟩ HC2.out HC3.out HM.out.1 HM.out.2 ?_)
                intro v2 w2 ho2 hK2 hat2
                have hKx : Kept (fun k => k = wx.heap.size) wx w2 := (kept_of (S := fun _ => False) (HBX1.out.alloc HBX1.out.size _)).trans hK2 (fun i hi e => by
                  rcases HAT.out with e2 | e2
                  · rw [e2] at e; cases e
                  · rw [e2] at e; have := Option.some.inj e; omega) |>.wide (fun k _ e => e.elim)
                have HB2 : Hid (Below w.heap.size w w2) := (HB1.out.alloc hw1s _).trans (hK2.below HC3.out (fun k _ e => (HO1.out.lt k e).1))
                have HO2 : Hid (Own 34 2 VP w2 (fun k => w.heap.size ≤ k) v2 (out.take m ++ [(t, s)])) := ho2
                obtain ⟨xv2, nv2, cv2, rfl⟩ := ho2.shape
                have hw2s := HB2.out.size
                clear ho2 hK2 hat2 HC1 HC2 HC3 HBN HO1
                go_wp2_with (at_builtin; refine wpList_append_view (ys := out.drop m) rfl (.tmp 69) (.tmp 72) 28 rfl elem_q rfl HO2.out rfl ?b4 (fun e => by cases e) (fun ad e j u hu => by rw [HD0.out] at hu; simp [cellsP] at hu) hw2s ?b5 ?_)
                case b4 => simp; omega
                case b5 => simp; omega
                intro v3 w3 ho3 hK3 hat3
                have HO3 : Hid (Own 34 2 VP w3 (fun k => w.heap.size ≤ k) v3 (out.take m ++ [(t, s)] ++ out.drop m)) := by show Own _ _ _ _ _ _ _; rw [List.append_assoc]; exact ho3
                have HB3 : Hid (Below w.heap.size w w3) := HB2.out.trans (hK3.below hw2s (fun k _ e => (HO2.out.lt k e).1))
                have HP3 : Hid ((out.take m ++ [(t, s)] ++ out.drop m).Perm (zs.take (m + 1))) := by show List.Perm _ _; rw [HT.out]; exact ins_perm HP.out _ _
                have HS3 : Hid (Srt (out.take m ++ [(t, s)] ++ out.drop m)) := ins_srt HSR.out (t, s) (by omega) HJ.out HH.out
                obtain ⟨g3, c3, rfl⟩ := own_shape0 HO3.out (by simp; omega)
                have hl3 : (out.take m ++ [(t, s)] ++ out.drop m).length = m + 1 := by simp; omega
                rw [hl3] at HO3 ⊢
                clear ho3 hK3 hat3 HO2 HO HOx HP
                go_wp2_with fail
                go_roundw
                case rel => exact ⟨m + 1, _, by omega, by go_num, .inr ⟨g3, c3, by simp⟩, by rw [HBD.out], HEM2, HO3, HP3, HS3, HB3.out⟩
                case measure => simp [intOf]; omega
              · go_wp2_with fail
                go_quiet (fail)
                go_wp2_with fail
                obtain ⟨q1, hq1⟩ : ∃ q1, q1 = q + nq := ⟨_, rfl⟩
                have hdd : (wr.drewN q).drewN nq = wr.drewN q1 := by rw [hq1]; simp [World.drewN, Nat.add_assoc]
                rw [hdd]
                clear hdd
                clear hq1
                go_quiet (fail)
                obtain ⟨wx, hwx⟩ : ∃ wx, wx = (wr.drewN q1).drewN nq := ⟨_, rfl⟩
                rw [← hwx]
                have hbx : Below wr.heap.size wr wx := by rw [hwx]; exact below_drewN' (below_drewN _ _) _
                have HBx : Hid (Below w.heap.size w wx) := hB.trans (hbx.mono hB.size)
                have HOx : Hid (Own 34 2 VP wx (fun k => w.heap.size ≤ k) (.slice (some ⟨g, 0, none⟩) m c) out) := HO.out.old stays_p hbx
                have x0 : wx.cell? ⟨b, off + m * 2, none⟩ = some (.int .i64 t) := (HBx.out.cell (p := ⟨b, off + m * 2, none⟩) hb).trans c0
                have x1 : wx.cell? ⟨b, off + m * 2 + 1, none⟩ = some (.string s) := (HBx.out.cell (p := ⟨b, off + m * 2 + 1, none⟩) hb).trans c1
                have HVx : Hid (View 2 VP wx (some ⟨g, 0, none⟩) m c out) := HV.out.old stays_p hbx
                have hwxs := HBx.out.size
                have hgx : g < wx.heap.size := Nat.lt_of_lt_of_le hgw.2 hbx.size
                clear hwx hbx
                go_wp2_with (at_builtin; refine wpList_append_view (ys := out.take m) rfl (.tmp 57) (.tmp 60) 28 rfl elem_q rfl (own_nil 34 2 VP wx (fun k => w.heap.size ≤ k)) rfl ?b1 (fun e => by cases e) (view_some (view_take HVx.out hm)) ?b2 ?b3 ?_)
                case b1 => simp; omega
                case b2 => exact hwxs
                case b3 => simp; omega
                intro v1 w1 ho1 hK1 hat1
                have hB1 : Below wx.heap.size wx w1 := hK1.below (Nat.le_refl _) (fun k _ e => by simp [Value.ownBlock] at e)
                have HB1 : Hid (Below w.heap.size w w1) := HBx.out.trans (hB1.mono hwxs)
                have y0 : w1.cell? ⟨b, off + m * 2, none⟩ = some (.int .i64 t) := (HB1.out.cell (p := ⟨b, off + m * 2, none⟩) hb).trans c0
                have y1 : w1.cell? ⟨b, off + m * 2 + 1, none⟩ = some (.string s) := (HB1.out.cell (p := ⟨b, off + m * 2 + 1, none⟩) hb).trans c1
                have hw1s := HB1.out.size
                have HO1 : Hid (Own 34 2 VP (w1.alloc (.cells #[.int .i64 t, .string s] 34)) (fun k => w.heap.size ≤ k) v1 (out.take m)) := ho1.old stays_p (below_one _ _)
                have HBN : Hid ((w1.alloc (.cells #[.int .i64 t, .string s] 34)).heap[w1.heap.size]? = some (.cells [Value.int .i64 t, Value.string s].toArray 34 (0, 0))) := heap_alloc_new w1 _
                have HM : Hid ((out.take m).length + 1 ≤ maxLen ∧ ((out.take m).length + 1) * 24 ≤ 140737488355328) := by
                  show _ ∧ _
                  rw [List.length_take]
                  unfold maxLen; omega
                have HC1 : Hid (∀ u ∈ [Value.int .i64 t, Value.string s], u.oneCell' = true) := by
                  intro u hu; simp at hu; rcases hu with rfl | rfl <;> rfl
                have HC2 : Hid (∀ j k, j < 2 → ([Value.int .i64 t, Value.string s].getD j default).ownBlock = some k → k < (w1.alloc (.cells #[.int .i64 t, .string s] 34)).heap.size ∧ v1.ownBlock ≠ some k ∧ w.heap.size ≤ k) := by
                  intro j k hj hk
                  rcases (by omega : j = 0 ∨ j = 1) with rfl | rfl <;> simp [Value.ownBlock] at hk
                have HC3 : Hid (w.heap.size ≤ (w1.alloc (.cells #[.int .i64 t, .string s] 34)).heap.size) := by show _ ≤ _; simp; omega
                have HAT : Hid (v1.ownBlock = none ∨ v1.ownBlock = some wx.heap.size) := hat1
                have HBX1 : Hid (Below wx.heap.size wx w1) := hB1
                obtain ⟨xv1, nv1, cv1, rfl⟩ := ho1.shape
                clear ho1 hK1 hB1 hat1
                go_wp2_with (at_builtin; refine wpList_append_item rfl (.tmp 62) (.tmp 67) 28 rfl stays_p elem_q rfl HO1.out rfl HBN.out rfl HC1.out (t, s) ⟨rfl, rfl⟩ HC2.out HC3.out HM.out.1 HM.out.2 ?_)
                intro v2 w2 ho2 hK2 hat2
                have hKx : Kept (fun k => k = wx.heap.size) wx w2 := (kept_of (S := fun _ => False) (HBX1.out.alloc HBX1.out.size _)).trans hK2 (fun i hi e => by
                  rcases HAT.out with e2 | e2
                  · rw [e2] at e; cases e
                  · rw [e2] at e; have := Option.some.inj e; omega) |>.wide (fun k _ e => e.elim)
                have HB2 : Hid (Below w.heap.size w w2) := (HB1.out.alloc hw1s _).trans (hK2.below HC3.out (fun k _ e => (HO1.out.lt k e).1))
                have HO2 : Hid (Own 34 2 VP w2 (fun k => w.heap.size ≤ k) v2 (out.take m ++ [(t, s)])) := ho2
                obtain ⟨xv2, nv2, cv2, rfl⟩ := ho2.shape
                have hw2s := HB2.out.size
                clear ho2 hK2 hat2 HC1 HC2 HC3 HBN HO1
                go_wp2_with (at_builtin; refine wpList_append_view (ys := out.drop m) rfl (.tmp 69) (.tmp 72) 28 rfl elem_q rfl HO2.out rfl ?b4 (fun e => by cases e) (fun ad e j u hu => by rw [HD0.out] at hu; simp [cellsP] at hu) hw2s ?b5 ?_)
                case b4 => simp; omega
                case b5 => simp; omega
                intro v3 w3 ho3 hK3 hat3
                have HO3 : Hid (Own 34 2 VP w3 (fun k => w.heap.size ≤ k) v3 (out.take m ++ [(t, s)] ++ out.drop m)) := by show Own _ _ _ _ _ _ _; rw [List.append_assoc]; exact ho3
                have HB3 : Hid (Below w.heap.size w w3) := HB2.out.trans (hK3.below hw2s (fun k _ e => (HO2.out.lt k e).1))
                have HP3 : Hid ((out.take m ++ [(t, s)] ++ out.drop m).Perm (zs.take (m + 1))) := by show List.Perm _ _; rw [HT.out]; exact ins_perm HP.out _ _
                have HS3 : Hid (Srt (out.take m ++ [(t, s)] ++ out.drop m)) := ins_srt HSR.out (t, s) (by omega) HJ.out HH.out
                obtain ⟨g3, c3, rfl⟩ := own_shape0 HO3.out (by simp; omega)
                have hl3 : (out.take m ++ [(t, s)] ++ out.drop m).length = m + 1 := by simp; omega
                rw [hl3] at HO3 ⊢
                clear ho3 hK3 hat3 HO2 HO HOx HP
                go_wp2_with fail
                go_roundw
                case rel => exact ⟨m + 1, _, by omega, by go_num, .inr ⟨g3, c3, by simp⟩, by rw [HBD.out], HEM2, HO3, HP3, HS3, HB3.out⟩
                case measure => simp [intOf]; omega
    · obtain rfl : k = len := by omega
      have hz : zs.take k = zs := List.take_of_length_le (by rw [HL.out]; omega)
      rw [hz] at HEM HP ⊢
      have HBE : Hid (er = badE zs) := by show _ = _; rw [HE.out, newE_bad HEM.out]
      have hvs : ∃ x n c, u4 = .slice x n c := by
        rcases hshape with ⟨_, e⟩ | ⟨g, c, e⟩
        · exact ⟨_, _, _, e⟩
        · exact ⟨_, _, _, e⟩
      obtain ⟨xv, nv, cv, rfl⟩ := hvs
      by_cases hd : dupT zs = true
      · have e : badE zs = 11 := by unfold badE; rw [hd]; rfl
        have HR : Hid (er = 11 ∧ newE zs ≠ 0) := ⟨by rw [HBE.out, e], by rw [newE_bad HEM.out, e]; omega⟩
        rw [e]
        clear hd e hz
        go_wp2_with fail
        go_ret2
        exact ⟨_, by rw [HR.out.1]; rfl, .inl ⟨HR.out.2, rfl⟩, hB⟩
      · have hd' : dupT zs = false := by simpa using hd
        have e : badE zs = 0 := by unfold badE; rw [hd']; rfl
        have HR : Hid (er = 0 ∧ newE zs = 0) := ⟨by rw [HBE.out, e], by rw [newE_bad HEM.out, e]⟩
        have HS : Hid (Str out) := str_of HSR.out (dupT_false.1 (by rw [dupT_perm HP.out]; exact hd'))
        rw [e]
        clear hd hd' e hz
        go_wp2_with fail
        go_ret2
        exact ⟨_, by rw [HR.out.1]; rfl, .inr ⟨HR.out.2, out, HP.out, HS.out, HO.out⟩, hB⟩
end Go.Proofs.YtohkpihjkaffoaaDoor
