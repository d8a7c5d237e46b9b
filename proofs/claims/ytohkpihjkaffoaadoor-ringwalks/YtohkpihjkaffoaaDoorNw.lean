/-
  New: the ring of places.
-/
import Derived.Test.YtohkpihjkaffoaaDoorWk
namespace Go.Proofs.YtohkpihjkaffoaaDoor
open Go.RowKit Go.Lib Go.Shelf Go.Sort
set_option maxRecDepth 100000
set_option linter.unusedVariables false
set_option linter.unusedSimpArgs false

theorem below_drewN (w : World) (q : Nat) : Below w.heap.size w (w.drewN q) := ⟨rfl, rfl, rfl, Nat.le_refl _, fun _ _ => rfl⟩

theorem below_drewN' {n : Nat} {a w : World} (h : Below n a w) (q : Nat) : Below n a (w.drewN q) := ⟨h.os, h.tape, h.output, h.size, h.block⟩

def newE (zs : List Pl) : Int := if empH zs then 1 else if dupT zs then 11 else 0

/-- What New hands back. -/
def NewR (w' : World) (zs : List Pl) (v : Value) : Prop :=
  (newE zs ≠ 0 ∧ v = .pointer none) ∨ (newE zs = 0 ∧ ∃ N ps, v = .pointer (some ⟨N, 0, none⟩) ∧ ps.Perm zs ∧ Str ps ∧ RingAt w' N ps)

theorem ring_made {w : World} {a : Option Addr} {cap : Nat} {ps : List Pl} (h : View 2 VP w a ps.length cap ps) : RingAt (w.alloc (.cells #[.slice a ps.length cap] 60)) w.heap.size ps :=
  ⟨by simp, a, cap, (one_cell (heap_alloc_new w _)).1, h.old stays_p (below_one _ _)⟩

theorem near_dup {zs ps : List Pl} (hp : ps.Perm zs) {i : Nat} (hi : i + 1 < ps.length) (he : (ps.getD i default).1 = (ps.getD (i + 1) default).1) : dupT zs = true := by
  rw [← dupT_perm hp]
  have : ¬ dupT ps = false := by
    rw [dupT_false]
    intro hn
    unfold toks at hn
    rw [List.Nodup, List.pairwise_map, List.pairwise_iff_getElem] at hn
    have := hn i (i + 1) (by omega) hi (by omega)
    rw [List.getD_eq_getElem?_getD, List.getD_eq_getElem?_getD, List.getElem?_eq_getElem (by omega), List.getElem?_eq_getElem hi] at he
    exact this he
  simpa using this

set_option maxHeartbeats 1000000 in
theorem new_any {w : World} {a : Option Addr} {len cap : Nat} {zs : List Pl} (h : View 2 VP w a len cap zs) (hl : len ≤ 400000) {er : Int} (he : er = newE zs) :
    Calls Tryd.prog 9 #[.slice a len cap] w fun e w' => ∃ v, e = .returned (.tuple #[v, .int .i64 er]) ∧ Hid (NewR w' zs v) ∧ Below w.heap.size w w' := by
  have HV : Hid (View 2 VP w a len cap zs) := h
  have HE : Hid (er = newE zs) := he
  have HL : Hid (zs.length = len) := h.1
  clear h he
  by_cases hem : empH zs = true
  · obtain rfl : er = 1 := by rw [HE.out]; unfold newE; rw [if_pos hem]
    have HH : Hid (Calls Tryd.prog 21 #[.slice a len cap, .func (.func 22) #[] #[]] w fun e w' => e = .returned (.bool true) ∧ Below w.heap.size w w') := by
      have := hasEmpty_any HV.out; rw [hem] at this; exact this
    have HN : Hid (newE zs ≠ 0) := by show _ ≠ _; rw [← HE.out]; omega
    clear hem HE
    go_enter Tryd.func9, Tryd.ntmps9
    go_wp2_with (go_at_call 21; refine HH.out.mono ?_; rintro e w1 ⟨rfl, hB⟩)
    go_ret2
    exact ⟨_, rfl, .inl ⟨HN.out, rfl⟩, hB⟩
  · have hem' : empH zs = false := by simpa using hem
    have HH : Hid (Calls Tryd.prog 21 #[.slice a len cap, .func (.func 22) #[] #[]] w fun e w' => e = .returned (.bool false) ∧ Below w.heap.size w w') := by
      have := hasEmpty_any HV.out; rw [hem'] at this; exact this
    have HNE : Hid (newE zs = if dupT zs then 11 else 0) := by show _ = _; unfold newE; rw [hem']; rfl
    clear hem hem'
    go_enter Tryd.func9, Tryd.ntmps9
    go_wp2_with (go_at_call 21; refine HH.out.mono ?_; rintro e w1 ⟨rfl, hB⟩; have HB1 : Hid (Below w.heap.size w w1) := hB; clear hB)
    refine (clone_any (HV.out.old stays_p HB1.out) (by omega)).mono ?_
    rintro e w2 ⟨v, rfl, ho, hB2⟩
    have HB2 : Hid (Below w.heap.size w w2) := HB1.out.trans (hB2.mono HB1.out.size)
    have HO2 : Hid (Own 46 2 VP w2 (fun k => w.heap.size ≤ k) v zs) := ho.wide (fun k _ hk => Nat.le_trans HB1.out.size hk)
    clear hB2 ho
    obtain ⟨x2, n2, c2, rfl⟩ := HO2.out.shape
    go_wp2_with fail
    refine (sort_any HO2.out (by rw [HL.out]; omega)).mono ?_
    rintro e w3 ⟨rfl, ps, hp, hsr, ho3, hK⟩
    have HB3 : Hid (Below w.heap.size w w3) := HB2.out.trans (hK.below (HB2.out.size) (fun k _ e => (HO2.out.lt k e).1))
    obtain ⟨x3, c3, hv3, hV3, _⟩ := ho3.view
    cases hv3
    have HP : Hid (ps.Perm zs) := hp
    have HS : Hid (Srt ps) := hsr
    have HV3 : Hid (View 2 VP w3 x2 ps.length c2 ps) := hV3
    have hpl : ps.length = len := by rw [hp.length_eq]; exact HL.out
    have q1 : ps.length ≤ c2 := hV3.2.1
    have q2 : c2 ≤ 9223372036854775807 := hV3.2.2.1
    obtain ⟨n, hn⟩ : ∃ n : Nat, n = ps.length := ⟨_, rfl⟩
    have HN : Hid (n = ps.length) := hn
    rw [← hn] at q1 ⊢
    have hn1 : n ≤ 400000 := by omega
    clear hK ho3 hp hsr hV3 HO2 HB2 HB1 HH HV hn hpl
    go_wp2_with fail
    go_loopw [5] (fun i wr => ∃ (m q : Nat), (m = 0 ∨ m + 1 ≤ n) ∧ i = .int .i64 ((m : Int) + 1) ∧ wr = w3.drewN q ∧ Hid (∀ j, j + 1 < m + 1 → (ps.getD j default).1 ≠ (ps.getD (j + 1) default).1)) (fun i _ => n + 1 - (intOf i).toNat)
    case atStart => exact ⟨0, 0, by omega, rfl, rfl, fun j hj => by omega⟩
    case round =>
      obtain ⟨m, q, hm, rfl, rfl, HJ⟩ := hrel
      by_cases hlt : m + 1 < n
      · obtain ⟨b, off, ha, hb, c0, _⟩ := HV3.out.pl (i := m) (by rw [← HN.out]; omega)
        obtain ⟨b', off', ha', _, c1, _⟩ := HV3.out.pl (i := m + 1) (by rw [← HN.out]; omega)
        subst ha
        cases ha'
        obtain ⟨x, hx⟩ : ∃ x, x = (ps.getD m default).1 := ⟨_, rfl⟩
        obtain ⟨y, hy⟩ : ∃ y, y = (ps.getD (m + 1) default).1 := ⟨_, rfl⟩
        rw [← hx] at c0
        rw [← hy] at c1
        have hlt' : (m : Int) + 1 < (n : Int) := by omega
        have hlt2 : (m : Int) < (n : Int) := by omega
        have hm0 : (0 : Int) ≤ (m : Int) := by omega
        have hm1 : (0 : Int) ≤ (m : Int) + 1 := by omega
        by_cases hxy : x = y
        · have HD : Hid (er = 11 ∧ newE zs ≠ 0) := by
            have := near_dup HP.out (i := m) (by rw [← HN.out]; omega) (by rw [← hx, ← hy]; exact hxy)
            have e : newE zs = 11 := by rw [HNE.out, this]; rfl
            exact ⟨by rw [HE.out, e], by rw [e]; omega⟩
          subst hxy
          clear hx hy HJ
          go_wp2_with fail
          go_quiet (fail)
          go_wp2_with fail
          go_ret2
          exact ⟨_, by rw [HD.out.1]; rfl, .inl ⟨HD.out.2, rfl⟩, below_drewN' (below_drewN' HB3.out _) _⟩
        · have HJ2 : Hid (∀ j, j + 1 < m + 1 + 1 → (ps.getD j default).1 ≠ (ps.getD (j + 1) default).1) := fun j hj => by
            by_cases e : j = m
            · subst e; rw [← hx, ← hy]; exact hxy
            · exact HJ.out j (by omega)
          have hxy' : (x == y) = false := by simpa using hxy
          clear hx hy HJ
          go_wp2_with fail
          go_quiet (fail)
          go_wp2_with fail
          go_roundw
          case rel => exact ⟨m + 1, q + nq, by omega, by go_num, by simp, HJ2⟩
          case measure => simp [intOf]; omega
      · have HST : Hid (Str ps) := str_of_near HS.out (fun i hi => HJ.out i (by have := HN.out; omega))
        have HD : Hid (er = 0 ∧ newE zs = 0) := by
          have : dupT zs = false := by rw [← dupT_perm HP.out, dupT_false]; exact str_nodup HST.out
          have e : newE zs = 0 := by rw [HNE.out, this]; rfl
          exact ⟨by rw [HE.out, e], e⟩
        have HR : Hid (RingAt ((w3.drewN q).alloc (.cells #[.slice x2 n c2] 60)) w3.heap.size ps) := by
          show RingAt _ _ _
          have hV : View 2 VP (w3.drewN q) x2 ps.length c2 ps := HV3.out.old stays_p (below_drewN _ _)
          have := ring_made hV
          rw [← HN.out] at this
          exact this
        have HB4 : Hid (Below w.heap.size w ((w3.drewN q).alloc (.cells #[.slice x2 n c2] 60))) := (below_drewN' HB3.out _).alloc (by have := HB3.out.size; exact this) _
        have hge : ¬ (m : Int) + 1 < (n : Int) := by omega
        clear HJ
        go_wp2_with fail
        go_ret2
        exact ⟨_, by rw [HD.out.1]; rfl, .inr ⟨HD.out.2, _, ps, rfl, HP.out, HST.out, HR.out⟩, HB4.out⟩
end Go.Proofs.YtohkpihjkaffoaaDoor
