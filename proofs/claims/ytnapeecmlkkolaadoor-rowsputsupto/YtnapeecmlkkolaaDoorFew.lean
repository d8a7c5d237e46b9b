/-
  The contracts of the statements' own few and size, and what a small type is.
-/
import Derived.Test.YtnapeecmlkkolaaDoorAc
namespace Go.Proofs.YtnapeecmlkkolaaDoor
open Go.RowKit
set_option linter.unusedVariables false
set_option linter.unusedSimpArgs false

def goS (f : Ty → Nat) : List Ty → Nat → Nat
  | [], c => c
  | k :: r, c => if c < 1000 then goS f r (c + f k) else c
/-- How many types, up to some bound. -/
def sizeF : Nat → Ty → Nat
  | 0, _ => 0
  | n + 1, t => goS (sizeF n) t.kids 1

def fewL (f : Ty → Bool) (g : Ty → Nat) : List Ty → Nat → Bool
  | [], c => decide (c < 200)
  | k :: r, c => if f k = true then fewL f g r (c + g k) else false
/-- Is a type small enough? -/
def fewF : Nat → Ty → Bool
  | 0, _ => false
  | m + 1, t => decide (t.kids.length ≤ 10) && (decide (t.names.length ≤ 20) && fewL (fewF m) (sizeF m) t.kids 0)

def cnt : Nat → Ty → Nat
  | 0, _ => 0
  | m + 1, t => 1 + (t.kids.map (cnt m)).sum

theorem goS_le {f : Ty → Nat} {M : Nat} (h : ∀ k, f k ≤ M) : ∀ (ks : List Ty) (c : Nat), c ≤ 1000 + M → goS f ks c ≤ 1000 + M
  | [], c, hc => hc
  | k :: r, c, hc => by
    rw [goS]
    split
    · have := h k
      exact goS_le h r _ (by omega)
    · exact hc

theorem sizeF_le : ∀ (n : Nat) (t : Ty), sizeF n t ≤ 1000 * n
  | 0, t => Nat.le_refl _
  | n + 1, t => by
    rw [sizeF]
    have := goS_le (sizeF_le n) t.kids 1 (by omega)
    omega

theorem goS_ge {f : Ty → Nat} : ∀ (ks : List Ty) (c : Nat), c ≤ goS f ks c
  | [], c => Nat.le_refl _
  | k :: r, c => by
    rw [goS]
    split
    · have := goS_ge (f := f) r (c + f k); omega
    · exact Nat.le_refl _

theorem goS_eq {f g : Ty → Nat} (h : ∀ k, f k < 1000 → f k = g k) : ∀ (ks : List Ty) (c : Nat), goS f ks c < 1000 → goS f ks c = c + (ks.map g).sum
  | [], c, _ => by simp [goS]
  | k :: r, c, hc => by
    rw [goS] at hc ⊢
    split at hc
    · rename_i hlt
      rw [if_pos hlt]
      have h1 := goS_ge (f := f) r (c + f k)
      rw [goS_eq h r _ hc, List.map_cons, List.sum_cons, h k (by omega)]
      omega
    · omega

theorem sizeF_cnt : ∀ (n : Nat) (t : Ty), sizeF n t < 1000 → sizeF n t = cnt n t
  | 0, t, _ => rfl
  | n + 1, t, h => by
    rw [sizeF] at h ⊢
    rw [goS_eq (sizeF_cnt n) t.kids 1 h, cnt]

theorem fewL_all {f : Ty → Bool} {g : Ty → Nat} : ∀ (ks : List Ty) (c : Nat), fewL f g ks c = true → (∀ k ∈ ks, f k = true) ∧ c + (ks.map g).sum < 200
  | [], c, h => ⟨fun k hk => (by cases hk), by simpa [fewL] using h⟩
  | k :: r, c, h => by
    rw [fewL] at h
    split at h
    · rename_i hf
      obtain ⟨h1, h2⟩ := fewL_all r _ h
      refine ⟨fun x hx => ?_, by rw [List.map_cons, List.sum_cons]; omega⟩
      rcases List.mem_cons.1 hx with rfl | hx
      · exact hf
      · exact h1 x hx
    · cases h

theorem fewF_parts {m : Nat} {t : Ty} (h : fewF (m + 1) t = true) : t.kids.length ≤ 10 ∧ t.names.length ≤ 20 ∧ (∀ k ∈ t.kids, fewF m k = true) ∧ (t.kids.map (sizeF m)).sum < 200 := by
  rw [fewF, Bool.and_eq_true, Bool.and_eq_true, decide_eq_true_eq, decide_eq_true_eq] at h
  obtain ⟨h1, h2, h3⟩ := h
  obtain ⟨h4, h5⟩ := fewL_all _ _ h3
  exact ⟨h1, h2, h4, by omega⟩

theorem sum_congr {f g : Ty → Nat} : ∀ (ks : List Ty), (∀ k ∈ ks, f k = g k) → (ks.map f).sum = (ks.map g).sum
  | [], _ => rfl
  | k :: r, h => by
    rw [List.map_cons, List.sum_cons, List.map_cons, List.sum_cons, h k List.mem_cons_self, sum_congr r (fun x hx => h x (List.mem_cons_of_mem _ hx))]
theorem sum_le {f g : Ty → Nat} {C : Nat} : ∀ (ks : List Ty), (∀ k ∈ ks, f k ≤ C * g k) → (ks.map f).sum ≤ C * (ks.map g).sum
  | [], _ => by simp
  | k :: r, h => by
    have h1 := sum_le r (fun x hx => h x (List.mem_cons_of_mem _ hx))
    have h2 := h k List.mem_cons_self
    rw [List.map_cons, List.sum_cons, List.map_cons, List.sum_cons, Nat.mul_add]
    omega

theorem few_cnt {m : Nat} {t : Ty} (h : fewF (m + 1) t = true) : cnt (m + 1) t ≤ 200 := by
  obtain ⟨_, _, _, h5⟩ := fewF_parts h
  have : (t.kids.map (sizeF m)).sum = (t.kids.map (cnt m)).sum := sum_congr _ (fun k hk => sizeF_cnt m k (by have := sum_mem (f := sizeF m) hk; omega))
  rw [cnt]; omega

theorem few_wgt : ∀ (m : Nat) (t : Ty), fewF m t = true → wgt m t ≤ 1441818 * cnt m t
  | 0, t, h => by cases h
  | m + 1, t, h => by
    obtain ⟨_, h2, h3, _⟩ := fewF_parts h
    have h4 := sum_le (f := wgt m) (g := cnt m) (C := 1441818) t.kids (fun k hk => few_wgt m k (h3 k hk))
    rw [wgt, cnt, Nat.mul_add]
    have : 65537 * t.names.length ≤ 65537 * 20 := Nat.mul_le_mul_left _ h2
    omega

theorem few_wgt26 {t : Ty} (h : fewF 26 t = true) : wgt 26 t ≤ 288363600 := by
  have h1 := few_wgt 26 t h
  have h2 : cnt 26 t ≤ 200 := few_cnt h
  omega

/-- A small type is no deeper. -/
theorem few_fit : ∀ (m : Nat) {n : Nat} {F : Nat → Prop} {w : World} {t : Ty} {na : Option Addr} {nl nc : Nat} {ka : Option Addr} {kl kc : Nat}, fewF m t = true → TyAt n F w t na nl nc ka kl kc → TyAt (m - 1) F w t na nl nc ka kl kc
  | 0, n, F, w, t, na, nl, nc, ka, kl, kc, hf, h => by cases hf
  | m + 1, n, F, w, t, na, nl, nc, ka, kl, kc, hf, h => by
    obtain ⟨_, _, h3, _⟩ := fewF_parts hf
    obtain ⟨hid, hs1, hs2, hn, hk⟩ := h
    refine ⟨hid, hs1, hs2, hn, hk.mono (fun k _ hF => ⟨hF, rfl⟩) (Nat.le_refl _) (fun x c hx hv => ?_)⟩
    cases n with
    | zero => exact hv.elim
    | succ n =>
      obtain ⟨xa, xl, xc, ya, yl, yc, e0, e1, e2, e3, e4, hin⟩ := hv
      have hfx := h3 x hx
      have := few_fit m hfx hin
      cases m with
      | zero => cases hfx
      | succ m => exact ⟨xa, xl, xc, ya, yl, yc, e0, e1, e2, e3, e4, this⟩

theorem goS_step {f : Ty → Nat} {xs : List Ty} {k c R : Nat} {x : Ty} (h : goS f (xs.drop k) c = R) (hx : xs[k]? = some x) (hc : c < 1000) : goS f (xs.drop (k + 1)) (c + f x) = R := by
  have hk := (List.getElem?_eq_some_iff.1 hx).1
  rw [List.drop_eq_getElem_cons hk, (List.getElem?_eq_some_iff.1 hx).2, goS, if_pos hc] at h
  exact h
theorem goS_stop {f : Ty → Nat} {xs : List Ty} {k c R : Nat} {x : Ty} (h : goS f (xs.drop k) c = R) (hx : xs[k]? = some x) (hc : ¬ c < 1000) : R = c := by
  have hk := (List.getElem?_eq_some_iff.1 hx).1
  rw [List.drop_eq_getElem_cons hk, (List.getElem?_eq_some_iff.1 hx).2, goS, if_neg hc] at h
  exact h.symm

/-- The contract of size, of types so deep. -/
def SizesTy (n : Nat) : Prop := ∀ (F : Nat → Prop) (w : World) (t : Ty) (na : Option Addr) (nl nc : Nat) (ka : Option Addr) (kl kc : Nat), TyAt n F w t na nl nc ka kl kc → ∀ R : Nat, R = sizeF (n + 1) t →
  Calls Tryd.prog 58 #[.agg #[.int .u16 t.id, .string t.space, .string t.name, .slice na nl nc, .slice ka kl kc]] w fun e w' => e = .returned (.int .i64 R) ∧ Below w.heap.size w w'

set_option maxHeartbeats 1000000 in
theorem size_step (n : Nat) (hn : n ≤ 100) (ih : ∀ m, n = m + 1 → SizesTy m) : SizesTy n := by
  intro F w t na nl nc ka kl kc h R hR
  have hkl := h.kl_le
  unfold maxLen at hkl
  have HL : Hid (t.kids.length = kl) := h.kl_eq
  have H : Hid (TyAt n F w t na nl nc ka kl kc) := h
  have HR : Hid (goS (sizeF n) t.kids 1 = R) := hR.symm
  have IH : Hid _ := ih
  clear h hR ih
  go_enter Tryd.func58, Tryd.ntmps58
  go_wp2_with fail
  go_loopw [3, 4] (fun c i wr => ∃ k q : Nat, k ≤ kl ∧ Hid (q ≤ 1000 * (n + 2)) ∧ i = .int .i64 k ∧ c = .int .i64 q ∧ Hid (goS (sizeF n) (t.kids.drop k) q = R) ∧ Hid (wr.heap[w.heap.size]? = some (.cells #[.int .u16 t.id, .string t.space, .string t.name, .slice na nl nc, .slice ka kl kc] 62 (0, 0))) ∧ Below w.heap.size w wr ∧ w.heap.size < wr.heap.size) (fun _ i _ => kl - (intOf i).toNat)
  case atStart => exact ⟨0, 1, by omega, (by show 1 ≤ _; omega), rfl, rfl, HR, heap_alloc_new w _, below_one _ _, by simp⟩
  case round =>
    obtain ⟨k, q, hk, HQ, rfl, rfl, HG, HBX, hB, hsz⟩ := hrel
    have c4x : wr.cell? ⟨w.heap.size, 4, none⟩ = some (.slice ka kl kc) := by rw [Lib.cell_of_heap HBX.out]; rfl
    by_cases hlt : k < kl
    · obtain ⟨m, hm⟩ := H.out.pos (by omega)
      obtain ⟨x, b, off, xa, xl, xc, ya, yl, yc, hx, rfl, hbs, c0, c1, c2, c3, c4, hin⟩ := (hm ▸ (H.out.old hB) : TyAt (m + 1) F wr t na nl nc ka kl kc).kid hlt
      by_cases hc : q < 1000
      · obtain ⟨Rx, hRx⟩ : ∃ Rx, Rx = sizeF n x := ⟨_, rfl⟩
        have HRL : Hid (Rx ≤ 1000 * n) := by show _ ≤ _; rw [hRx]; exact sizeF_le n x
        have hRl : Rx ≤ 100000 := by have := HRL.out; omega
        have hci : (q : Int) < 1000 := by omega
        have HIN : Hid (TyAt m F wr x xa xl xc ya yl yc) := hin
        have HRX : Hid (Rx = sizeF (m + 1) x) := by show _ = _; rw [hRx, hm]
        have HG2 : Hid (goS (sizeF n) (t.kids.drop (k + 1)) (q + Rx) = R) := by
          rw [hRx]; exact goS_step HG.out hx hc
        have HM : Hid _ := hm
        have HC : Hid _ := hc
        clear hx hin hRx hm hc
        go_wp2_with fail
        refine (IH.out m HM.out F wr x xa xl xc ya yl yc HIN.out Rx HRX.out).mono ?_
        rintro e w2 ⟨rfl, hB2⟩
        have HBX2 : Hid (w2.heap[w.heap.size]? = some (.cells #[.int .u16 t.id, .string t.space, .string t.name, .slice na nl nc, .slice (some ⟨b, off, none⟩) kl kc] 62 (0, 0))) := by show _ = _; rw [hB2.block _ hsz]; exact HBX.out
        have hs2 := hB2.size
        go_wp2_with fail
        go_roundw
        case rel => exact ⟨k + 1, q + Rx, by omega, (by have := HRL.out; have := HC.out; show _ ≤ _; omega), by go_num, by go_num, HG2, HBX2, hB.trans (hB2.mono hB.size), by omega⟩
        case measure => simp [intOf]; omega
      · have hd : decide ((q : Int) < 1000) = false := by simp; omega
        obtain rfl := goS_stop HG.out hx hc
        clear hx hin hm hc
        go_wp2_with fail
        go_ret
        exact ⟨rfl, hB⟩
    · have hE : R = q := by
        have := HG.out
        rw [List.drop_eq_nil_of_le (by rw [HL.out]; omega), goS] at this
        exact this.symm
      subst hE
      go_wp2_with fail
      go_ret
      exact ⟨rfl, hB⟩

theorem size_any (n : Nat) (hn : n ≤ 100) : SizesTy n := by
  induction n with
  | zero => exact size_step 0 hn (fun m hm => by omega)
  | succ n ih => exact size_step (n + 1) hn (fun m hm => (Nat.succ.inj hm) ▸ ih (by omega))

theorem fewL_step {f : Ty → Bool} {g : Ty → Nat} {xs : List Ty} {k c : Nat} {x : Ty} {d : Bool} (h : fewL f g (xs.drop k) c = d) (hx : xs[k]? = some x) (hf : f x = true) : fewL f g (xs.drop (k + 1)) (c + g x) = d := by
  have hk := (List.getElem?_eq_some_iff.1 hx).1
  rw [List.drop_eq_getElem_cons hk, (List.getElem?_eq_some_iff.1 hx).2, fewL, if_pos hf] at h
  exact h
theorem fewL_stop {f : Ty → Bool} {g : Ty → Nat} {xs : List Ty} {k c : Nat} {x : Ty} {d : Bool} (h : fewL f g (xs.drop k) c = d) (hx : xs[k]? = some x) (hf : f x = false) : d = false := by
  have hk := (List.getElem?_eq_some_iff.1 hx).1
  rw [List.drop_eq_getElem_cons hk, (List.getElem?_eq_some_iff.1 hx).2, fewL, if_neg (by rw [hf]; decide)] at h
  exact h.symm

/-- The contract of few, so many levels from the bound. -/
def FewsTy (m : Nat) : Prop := ∀ (n : Nat) (F : Nat → Prop) (w : World) (t : Ty) (na : Option Addr) (nl nc : Nat) (ka : Option Addr) (kl kc : Nat), TyAt n F w t na nl nc ka kl kc → ∀ d : Bool, d = fewF m t → ∀ p : Int, p = 26 - m →
  Calls Tryd.prog 29 #[.agg #[.int .u16 t.id, .string t.space, .string t.name, .slice na nl nc, .slice ka kl kc], .int .i64 p] w fun e w' => e = .returned (.bool d) ∧ Below w.heap.size w w'

set_option maxHeartbeats 1000000 in
theorem few_big (w : World) (t : Ty) (na : Option Addr) (nl nc : Nat) (ka : Option Addr) (kl kc : Nat) (hkl : kl ≤ maxLen) (hnl : nl ≤ maxLen) (p : Int) (hp : 0 ≤ p) (hp2 : p ≤ 26) (hb : 10 < kl ∨ 20 < nl ∨ 25 < p) :
    Calls Tryd.prog 29 #[.agg #[.int .u16 t.id, .string t.space, .string t.name, .slice na nl nc, .slice ka kl kc], .int .i64 p] w fun e w' => e = .returned (.bool false) ∧ Below w.heap.size w w' := by
  unfold maxLen at hkl hnl
  by_cases h1 : 10 < kl
  · have d1 : (10 : Int) < kl := by omega
    clear hb h1
    go_enter Tryd.func29, Tryd.ntmps29
    go_wp2_with fail
    go_ret
    exact ⟨rfl, below_one _ _⟩
  · have d1 : decide ((10 : Int) < kl) = false := by simp; omega
    by_cases h2 : 20 < nl
    · have d2 : (20 : Int) < nl := by omega
      clear hb h1 h2
      go_enter Tryd.func29, Tryd.ntmps29
      go_wp2_with fail
      go_ret
      exact ⟨rfl, below_one _ _⟩
    · have d2 : decide ((20 : Int) < nl) = false := by simp; omega
      have d3 : (25 : Int) < p := by omega
      clear hb h1 h2
      go_enter Tryd.func29, Tryd.ntmps29
      go_wp2_with fail
      go_ret
      exact ⟨rfl, below_one _ _⟩

set_option maxHeartbeats 1000000 in
theorem few_step (m : Nat) (hm : m ≤ 25) (ih : FewsTy m) : FewsTy (m + 1) := by
  intro n F w t na nl nc ka kl kc h d hd p hp
  have hkl := h.kl_le
  have hnl := h.nl_le
  by_cases hbig : 10 < kl ∨ 20 < nl
  · have : d = false := by
      rw [hd, fewF, h.kl_eq, h.nl_eq]
      rcases hbig with hb | hb
      · rw [decide_eq_false (by omega), Bool.false_and]
      · rw [decide_eq_false (p := nl ≤ 20) (by omega), Bool.false_and, Bool.and_false]
    subst this
    exact few_big w t na nl nc ka kl kc (Nat.le_trans hkl.1 hkl.2) (Nat.le_trans hnl.1 hnl.2) p (by omega) (by omega) (by omega)
  · unfold maxLen at hkl hnl
    have hk10 : kl ≤ 10 := by omega
    have d1 : decide ((10 : Int) < kl) = false := by simp; omega
    have d2 : decide ((20 : Int) < nl) = false := by simp; omega
    have d3 : decide ((25 : Int) < p) = false := by simp; omega
    have hp1 : 0 ≤ p := by omega
    have hp2 : p ≤ 25 := by omega
    have HP : Hid (p + 1 = 26 - m) := by show _ = _; omega
    have HL : Hid (t.kids.length = kl) := h.kl_eq
    have H : Hid (TyAt n F w t na nl nc ka kl kc) := h
    have HD : Hid (fewL (fewF m) (sizeF m) (t.kids.drop 0) 0 = d) := by
      show _ = _
      rw [hd, fewF, h.kl_eq, h.nl_eq, decide_eq_true hk10, decide_eq_true (p := nl ≤ 20) (by omega), Bool.true_and, Bool.true_and, List.drop_zero]
    have IH : Hid (FewsTy m) := ih
    clear h hd hp hbig ih
    go_enter Tryd.func29, Tryd.ntmps29
    go_wp2_with fail
    go_loopw [5, 6] (fun c i wr => ∃ k q : Nat, k ≤ kl ∧ q ≤ 26000 * k ∧ i = .int .i64 k ∧ c = .int .i64 q ∧ Hid (fewL (fewF m) (sizeF m) (t.kids.drop k) q = d) ∧ Hid (wr.heap[w.heap.size]? = some (.cells #[.int .u16 t.id, .string t.space, .string t.name, .slice na nl nc, .slice ka kl kc] 62 (0, 0))) ∧ Below w.heap.size w wr ∧ w.heap.size < wr.heap.size) (fun _ i _ => kl - (intOf i).toNat)
    case atStart => exact ⟨0, 0, by omega, by omega, rfl, rfl, HD, heap_alloc_new w _, below_one _ _, by simp⟩
    case round =>
      obtain ⟨k, q, hk, hq, rfl, rfl, HG, HBX, hB, hsz⟩ := hrel
      have c4x : wr.cell? ⟨w.heap.size, 4, none⟩ = some (.slice ka kl kc) := by rw [Lib.cell_of_heap HBX.out]; rfl
      by_cases hlt : k < kl
      · obtain ⟨n', hn'⟩ := H.out.pos (by omega)
        obtain ⟨x, b, off, xa, xl, xc, ya, yl, yc, hx, rfl, hbs, c0, c1, c2, c3, c4, hin⟩ := (hn' ▸ (H.out.old hB) : TyAt (n' + 1) F wr t na nl nc ka kl kc).kid hlt
        obtain ⟨dx, hdx⟩ : ∃ dx, dx = fewF m x := ⟨_, rfl⟩
        have HIN : Hid (TyAt n' F wr x xa xl xc ya yl yc) := hin
        have HDX : Hid _ := hdx
        have HX : Hid _ := hx
        clear hx hin hdx
        go_wp2_with fail
        refine (IH.out n' F wr x xa xl xc ya yl yc HIN.out dx HDX.out _ HP.out).mono ?_
        rintro e w2 ⟨rfl, hB2⟩
        have hs2 := hB2.size
        cases dx with
        | false =>
          obtain rfl := fewL_stop HG.out HX.out HDX.out.symm
          go_wp2_with fail
          go_ret
          exact ⟨rfl, hB.trans (hB2.mono hB.size)⟩
        | true =>
          obtain ⟨m', hm'⟩ : ∃ m', m = m' + 1 := by
            cases m with
            | zero => have := HDX.out; cases this
            | succ m' => exact ⟨m', rfl⟩
          obtain ⟨Rx, hRx⟩ : ∃ Rx, Rx = sizeF m x := ⟨_, rfl⟩
          have hRl : Rx ≤ 25000 := by have := sizeF_le m x; rw [hRx]; omega
          have HFIT : Hid (TyAt m' F w2 x xa xl xc ya yl yc) := by
            have := few_fit m HDX.out.symm (HIN.out.old hB2)
            rw [hm', Nat.add_sub_cancel] at this
            exact this
          have HRX : Hid (Rx = sizeF (m' + 1) x) := by show _ = _; rw [hRx, hm']
          have HG2 : Hid (fewL (fewF m) (sizeF m) (t.kids.drop (k + 1)) (q + Rx) = d) := by
            rw [hRx]; exact fewL_step HG.out HX.out HDX.out.symm
          have HM' : Hid _ := hm'
          have g4 : w2.cell? ⟨w.heap.size, 4, none⟩ = some (.slice (some ⟨b, off, none⟩) kl kc) := (hB2.cell hsz).trans c4x
          have hcc : ∀ j, w2.cell? ⟨b, j, none⟩ = wr.cell? ⟨b, j, none⟩ := fun j => hB2.cell (p := ⟨b, j, none⟩) hbs
          have g0 := (hcc _).trans c0
          have g1 := (hcc _).trans c1
          have g2 := (hcc _).trans c2
          have g3 := (hcc _).trans c3
          have g5 := (hcc _).trans c4
          clear hRx hm' hcc
          go_wp2_with fail
          refine (size_any m' (by have := HM'.out; omega) F w2 x xa xl xc ya yl yc HFIT.out Rx HRX.out).mono ?_
          rintro e w3 ⟨rfl, hB3⟩
          have hs3 := hB3.size
          have hB23 : Below wr.heap.size wr w3 := hB2.trans (hB3.mono hB2.size)
          have HBX3 : Hid (w3.heap[w.heap.size]? = some (.cells #[.int .u16 t.id, .string t.space, .string t.name, .slice na nl nc, .slice (some ⟨b, off, none⟩) kl kc] 62 (0, 0))) := by show _ = _; rw [hB23.block _ hsz]; exact HBX.out
          go_wp2_with fail
          go_roundw
          case rel => exact ⟨k + 1, q + Rx, by omega, by omega, by go_num, by go_num, HG2, HBX3, hB.trans (hB23.mono hB.size), by omega⟩
          case measure => simp [intOf]; omega
      · have hE : d = decide (q < 200) := by
          have := HG.out
          rw [List.drop_eq_nil_of_le (by rw [HL.out]; omega), fewL] at this
          exact this.symm
        by_cases h200 : q < 200
        · rw [decide_eq_true h200] at hE
          subst hE
          have hd2 : (q : Int) < 200 := by omega
          go_wp2_with fail
          go_ret
          exact ⟨by simp [hd2], hB⟩
        · rw [decide_eq_false h200] at hE
          subst hE
          have hd2 : decide ((q : Int) < 200) = false := by simp; omega
          go_wp2_with fail
          go_ret
          exact ⟨by simp [hd2], hB⟩

theorem few_all (m : Nat) (hm : m ≤ 26) : FewsTy m := by
  induction m with
  | zero =>
    intro n F w t na nl nc ka kl kc h d hd p hp
    obtain rfl : d = false := hd
    have hkl := h.kl_le
    have hnl := h.nl_le
    exact few_big w t na nl nc ka kl kc (Nat.le_trans hkl.1 hkl.2) (Nat.le_trans hnl.1 hnl.2) p (by omega) (by omega) (by omega)
  | succ m ih => exact few_step m (by omega) (ih (by omega))

/-- few of a type that came in. -/
theorem few_any {n : Nat} {F : Nat → Prop} {w : World} {t : Ty} {na : Option Addr} {nl nc : Nat} {ka : Option Addr} {kl kc : Nat} (h : TyAt n F w t na nl nc ka kl kc) {d : Bool} (hd : d = fewF 26 t) :
    Calls Tryd.prog 29 #[.agg #[.int .u16 t.id, .string t.space, .string t.name, .slice na nl nc, .slice ka kl kc], .int .i64 0] w fun e w' => e = .returned (.bool d) ∧ Below w.heap.size w w' :=
  few_all 26 (by omega) n F w t na nl nc ka kl kc h d hd 0 rfl
end Go.Proofs.YtnapeecmlkkolaaDoor
