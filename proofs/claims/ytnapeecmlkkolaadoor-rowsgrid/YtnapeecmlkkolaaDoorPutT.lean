/-
  What is put of a type, and the contracts of putKids, putTuple, putUdt, putType and Put.
-/
import Derived.Test.YtnapeecmlkkolaaDoorOn
namespace Go.Proofs.YtnapeecmlkkolaaDoor
open Go.RowKit
set_option linter.unusedVariables false
set_option linter.unusedSimpArgs false

def fieldB (f : Ty → List Int × Int) (p : ByteArray × Ty) : List Int × Int := cat (textB p.1) (f p.2)

/-- A type's bytes, and the error. -/
def tyB : Nat → Ty → List Int × Int
  | 0, _ => ([], 1)
  | n + 1, t => if hasB t.id t.kids.length t.names.length = false then ([], 1) else
    cat (putL t.id 2, 0) (if t.id = 0 then textB t.name else if t.id = 48 then cat (textB t.space) (cat (textB t.name) (cat (countB t.kids.length) (goB (fieldB (tyB n)) (t.names.zip t.kids))))
      else if t.id = 49 then cat (countB t.kids.length) (goB (tyB n) t.kids) else goB (tyB n) t.kids)

/-- How many bytes that may take at most. -/
def wgt : Nat → Ty → Nat
  | 0, _ => 0
  | n + 1, t => 131078 + 65537 * t.names.length + (t.kids.map (wgt n)).sum

theorem cat_ok {a b : List Int × Int} (h : a.2 = 0) (k : b.2 = 0) : cat a b = (a.1 ++ b.1, 0) := by rw [cat, if_pos h, if_pos k]
theorem cat_no {a b : List Int × Int} (h : a.2 ≠ 0) : cat a b = ([], a.2) := by rw [cat, if_neg h]
theorem cat_no2 {a b : List Int × Int} (h : a.2 = 0) (k : b.2 ≠ 0) : cat a b = ([], b.2) := by rw [cat, if_pos h, if_neg k]
theorem cat_err {a b : List Int × Int} (h : a.2 = 0) : (cat a b).2 = b.2 := by
  rw [cat, if_pos h]; split
  · rename_i k; exact k.symm
  · rfl
theorem cat_assoc {a b c : List Int × Int} (h : a.2 = 0) (k : b.2 = 0) : cat (a.1 ++ b.1, 0) c = cat a (cat b c) := by
  by_cases hc : c.2 = 0
  · rw [cat_ok (by rfl) hc, cat_ok k hc, cat_ok h (by rfl), List.append_assoc]
  · rw [cat_no2 (by rfl) hc, cat_no2 k hc, cat_no2 h (by exact hc)]
theorem cat_nil (a : List Int × Int) : cat a ([], 0) = if a.2 = 0 then a else ([], a.2) := by
  obtain ⟨x, e⟩ := a
  unfold cat
  split
  · rename_i h
    have h' : e = 0 := h
    subst h'
    rw [if_pos (by rfl)]; simp
  · rfl
theorem cat_len (a b : List Int × Int) : (cat a b).1.length ≤ a.1.length + b.1.length := by
  unfold cat
  split
  · split
    · simp
    · simp
  · simp

theorem cat_pure {a b : List Int × Int} : (cat a b).2 ≠ 0 → (cat a b).1 = [] := by
  unfold cat
  split
  · split
    · intro h; exact absurd rfl h
    · intro _; rfl
  · intro _; rfl
theorem goB_pure {α : Type} {f : α → List Int × Int} (xs : List α) : (goB f xs).2 ≠ 0 → (goB f xs).1 = [] := by
  cases xs with
  | nil => intro h; exact absurd rfl h
  | cons x r => rw [goB]; exact cat_pure
theorem nil_cat {a : List Int × Int} (h : a.2 ≠ 0 → a.1 = []) : cat ([], 0) a = a := by
  obtain ⟨x, e⟩ := a
  by_cases he : e = 0
  · subst he; rw [cat_ok (by rfl) (by rfl)]; rfl
  · rw [cat_no2 (by rfl) (by exact he)]
    have := h he
    simp at this
    rw [this]

theorem goB_len {α : Type} {f : α → List Int × Int} {g : α → Nat} (h : ∀ x, (f x).1.length ≤ g x) : ∀ xs : List α, (goB f xs).1.length ≤ (xs.map g).sum
  | [] => by simp [goB]
  | x :: r => by
    rw [goB, List.map_cons, List.sum_cons]
    have h1 := cat_len (f x) (goB f r)
    have h2 := goB_len h r
    have h3 := h x
    omega

theorem zip_sum (f : Ty → Nat) : ∀ (ns : List ByteArray) (ks : List Ty), ((ns.zip ks).map fun p => 65537 + f p.2).sum ≤ 65537 * ns.length + (ks.map f).sum
  | [], _ => by simp
  | _ :: _, [] => by simp
  | n :: ns, k :: ks => by
    have := zip_sum f ns ks
    simp only [List.zip_cons_cons, List.map_cons, List.sum_cons, List.length_cons, Nat.mul_succ]
    omega

theorem tyB_len : ∀ (n : Nat) (t : Ty), (tyB n t).1.length ≤ wgt n t
  | 0, t => by simp [tyB]
  | n + 1, t => by
    rw [tyB, wgt]
    split
    · simp
    · have ih := tyB_len n
      have h1 := cat_len (putL t.id 2, 0) (if t.id = 0 then textB t.name else if t.id = 48 then cat (textB t.space) (cat (textB t.name) (cat (countB t.kids.length) (goB (fieldB (tyB n)) (t.names.zip t.kids))))
        else if t.id = 49 then cat (countB t.kids.length) (goB (tyB n) t.kids) else goB (tyB n) t.kids)
      have h2 : (putL t.id 2, (0 : Int)).1.length = 2 := putL_length _ _
      have h3 := textB_len t.name
      have h4 := textB_len t.space
      have h5 := countB_len t.kids.length
      have h6 := goB_len ih t.kids
      have h7 : (goB (fieldB (tyB n)) (t.names.zip t.kids)).1.length ≤ 65537 * t.names.length + (t.kids.map (wgt n)).sum := by
        refine Nat.le_trans (goB_len (g := fun p => 65537 + wgt n p.2) (fun p => ?_) _) (zip_sum _ _ _)
        have h8 := cat_len (textB p.1) (tyB n p.2)
        have h9 := textB_len p.1
        have h10 := ih p.2
        show (cat _ _).1.length ≤ _
        omega
      refine Nat.le_trans h1 ?_
      split
      · omega
      · split
        · have h8 := cat_len (textB t.space) (cat (textB t.name) (cat (countB t.kids.length) (goB (fieldB (tyB n)) (t.names.zip t.kids))))
          have h9 := cat_len (textB t.name) (cat (countB t.kids.length) (goB (fieldB (tyB n)) (t.names.zip t.kids)))
          have h10 := cat_len (countB t.kids.length) (goB (fieldB (tyB n)) (t.names.zip t.kids))
          omega
        · split
          · have h8 := cat_len (countB t.kids.length) (goB (tyB n) t.kids)
            omega
          · omega

/-- The contract of putType, of types so deep. -/
def PutsTy (n : Nat) : Prop := ∀ (base : Nat) (w : World) (v : Value) (acc : List Int) (t : Ty) (na : Option Addr) (nl nc : Nat) (ka : Option Addr) (kl kc : Nat), Acc w base v acc → 0 < base → base ≤ w.heap.size → TyAt n (fun k => k < base) w t na nl nc ka kl kc → Tab w →
  acc.length + wgt (n + 1) t ≤ 140737488355328 → ∀ B, B = tyB (n + 1) t → Calls Tryd.prog 89 #[v, .agg #[.int .u16 t.id, .string t.space, .string t.name, .slice na nl nc, .slice ka kl kc]] w fun e w' => ∃ v', e = .returned (.tuple #[v', .int .i64 B.2]) ∧ Hid (On base w v acc B w' v')

theorem TyAt.pos {n : Nat} {F : Nat → Prop} {w : World} {t : Ty} {na : Option Addr} {nl nc : Nat} {ka : Option Addr} {kl kc : Nat} (h : TyAt n F w t na nl nc ka kl kc) (hk : 0 < kl) : ∃ m, n = m + 1 := by
  cases n with
  | zero => have := h.none; omega
  | succ n => exact ⟨n, rfl⟩

theorem TyAt.name_at {n : Nat} {F : Nat → Prop} {w : World} {t : Ty} {na : Option Addr} {nl nc : Nat} {ka : Option Addr} {kl kc : Nat} (h : TyAt n F w t na nl nc ka kl kc) {k : Nat} (hk : k < nl) :
    ∃ s b off, t.names[k]? = some s ∧ na = some ⟨b, off, .none⟩ ∧ b < w.heap.size ∧ w.cell? ⟨b, off + k, .none⟩ = some (.string s) ∧ s.size ≤ maxLen := by
  obtain ⟨hid, hs1, hs2, ⟨h1, h2, h3, h4, h5⟩, hkk⟩ := h
  obtain ⟨b, off, ha, hb, hFb, hc⟩ := h5 (by omega)
  have hx : t.names[k]? = some t.names[k] := List.getElem?_eq_getElem (by omega)
  obtain ⟨c, hcell, hv, hm⟩ := hc k _ hx
  refine ⟨_, b, off, hx, ha, hb, ?_, hm⟩
  rw [← hv]; have := hcell 0 (by omega); simpa using this

/-- What lies below base is as it was. -/
theorem TyAt.on {n base : Nat} {w W : World} {row : Option Nat} {t : Ty} {na : Option Addr} {nl nc : Nat} {ka : Option Addr} {kl kc : Nat} (h : TyAt n (fun k => k < base) w t na nl nc ka kl kc) (hg : w.grownBy W row) (hr : ∀ k, row = some k → base ≤ k) : TyAt n (fun k => k < base) W t na nl nc ka kl kc :=
  h.mono (fun k hk hF => ⟨hF, hg.block k hk (fun e => by have := hr k e.symm; omega)⟩) hg.size

theorem Tab.on {base : Nat} {w W : World} {row : Option Nat} (h : Tab w) (hg : w.grownBy W row) (hr : ∀ k, row = some k → base ≤ k) (hb : 0 < base) : Tab W :=
  ⟨fun i hi => (hg.cell_far ⟨0, i, none⟩ h.lt (fun e => by have : base ≤ 0 := hr 0 e.symm; omega)).trans (h.cell i hi), Nat.lt_of_lt_of_le h.lt hg.size⟩

theorem goB_drop {α : Type} {f : α → List Int × Int} {xs : List α} {k : Nat} {x : α} (hx : xs[k]? = some x) : goB f (xs.drop k) = cat (f x) (goB f (xs.drop (k + 1))) := by
  have hk := (List.getElem?_eq_some_iff.1 hx).1
  rw [List.drop_eq_getElem_cons hk, (List.getElem?_eq_some_iff.1 hx).2, goB]

theorem sum_drop {xs : List Ty} {f : Ty → Nat} {k : Nat} {x : Ty} (hx : xs[k]? = some x) : ((xs.drop k).map f).sum = f x + ((xs.drop (k + 1)).map f).sum := by
  have hk := (List.getElem?_eq_some_iff.1 hx).1
  rw [List.drop_eq_getElem_cons hk, (List.getElem?_eq_some_iff.1 hx).2, List.map_cons, List.sum_cons]

/-- One step of a row of parts. -/
theorem go_next {done : List Int} {b g B : List Int × Int} (h : B = cat (done, 0) (cat b g)) (hb : b.2 = 0) : B = cat (done ++ b.1, 0) g := by rw [h, ← cat_assoc (a := (done, 0)) (by rfl) hb]
theorem go_fail {done : List Int} {b g B : List Int × Int} (h : B = cat (done, 0) (cat b g)) (hb : b.2 ≠ 0) : B = ([], b.2) := by rw [h, cat_no hb, cat_no2 (by rfl) (by exact hb)]

set_option maxHeartbeats 1000000 in
theorem putKids_any (n : Nat) (ih : ∀ m, n = m + 1 → PutsTy m) {base : Nat} {w : World} {v : Value} {acc : List Int} {t : Ty} {na : Option Addr} {nl nc : Nat} {ka : Option Addr} {kl kc : Nat} (ha : Acc w base v acc) (hb0 : 0 < base) (hb : base ≤ w.heap.size)
    (h : TyAt n (fun k => k < base) w t na nl nc ka kl kc) (hT : Tab w) (hbd : acc.length + (t.kids.map (wgt n)).sum ≤ 140737488355328) {B : List Int × Int} (hB : B = goB (tyB n) t.kids) :
    Calls Tryd.prog 98 #[v, .slice ka kl kc] w fun e w' => ∃ v', e = .returned (.tuple #[v', .int .i64 B.2]) ∧ Hid (On base w v acc B w' v') := by
  have hkl := h.kl_le
  unfold maxLen at hkl
  have HL : Hid (t.kids.length = kl) := h.kl_eq
  have HA : Hid (Acc w base v acc) := ha
  have H : Hid (TyAt n (fun k => k < base) w t na nl nc ka kl kc) := h
  have HT : Hid (Tab w) := hT
  have IH : Hid _ := ih
  have HB : Hid (B = cat ([], 0) (goB (tyB n) (t.kids.drop 0))) := by
    show _ = _
    rw [List.drop_zero, ← hB]
    exact (nil_cat (hB ▸ goB_pure t.kids)).symm
  have HBD : Hid (acc.length + [].length (α := Int) + ((t.kids.drop 0).map (wgt n)).sum ≤ 140737488355328) := hbd
  clear ha h hT ih hB hbd
  go_enter Tryd.func98, Tryd.ntmps98
  go_wp2_with fail
  go_loopw [0, 11] (fun u i wr => ∃ (k : Nat) (done : List Int), k ≤ kl ∧ i = .int .i64 k ∧ Hid (Acc wr base u (acc ++ done)) ∧ Hid (B = cat (done, 0) (goB (tyB n) (t.kids.drop k))) ∧ Hid (acc.length + done.length + ((t.kids.drop k).map (wgt n)).sum ≤ 140737488355328) ∧
      Hid (w.grownBy wr v.ownBlock) ∧ Hid (Moved w v u)) (fun _ i _ => kl - (intOf i).toNat)
  case atStart => exact ⟨0, [], by omega, rfl, by rw [List.append_nil]; exact HA, HB, HBD, World.grownBy.refl _ _, Moved.refl _ _⟩
  case round =>
    obtain ⟨k, done, hk, rfl, HAk, HBk, HBDk, HG, HMv⟩ := hrel
    have HLT : Hid (∀ j, v.ownBlock = some j → base ≤ j) := fun j hj => (HA.out.lt j hj).1
    by_cases hlt : k < kl
    · obtain ⟨m, hm⟩ := H.out.pos (by omega)
      obtain ⟨x, b, off, xa, xl, xc, ya, yl, yc, hx, rfl, hbs, c0, c1, c2, c3, c4, hin⟩ := (hm ▸ (H.out.on HG.out HLT.out) : TyAt (m + 1) (fun k => k < base) wr t na nl nc ka kl kc).kid hlt
      obtain ⟨Bx, hBx⟩ : ∃ Bx, Bx = tyB n x := ⟨_, rfl⟩
      have HX : Hid _ := hx
      have HIN : Hid (TyAt m (fun k => k < base) wr x xa xl xc ya yl yc) := hin
      have HBX : Hid _ := hBx
      have HW : Hid ((acc ++ done).length + wgt (m + 1) x ≤ 140737488355328) := by
        show _ ≤ _
        have := HBDk.out
        rw [sum_drop hx, hm] at this
        rw [List.length_append]; omega
      have HBX2 : Hid (Bx = tyB (m + 1) x) := by show _ = _; rw [hBx, hm]
      have HTk : Hid (Tab wr) := HT.out.on HG.out HLT.out hb0
      have hsz := HG.out.size
      have HM : Hid _ := hm
      clear hx hin hBx hm
      go_wp2_with fail
      refine (IH.out m HM.out base _ u0 (acc ++ done) x xa xl xc ya yl yc (HAk.out.grown (below_one _ _)) hb0 (by simp; omega) (HIN.out.old (below_one _ _)) (HTk.out.old (below_one _ _)) HW.out Bx HBX2.out).mono ?_
      rintro e w2 ⟨v2, rfl, HO⟩
      have HG2 : Hid (w.grownBy w2 v.ownBlock) := grownBy_then HG.out HMv.out (((below_grownBy (below_one wr _) _)).trans HO.out.grown)
      by_cases he : Bx.2 = 0
      · obtain ⟨hA2, hM2⟩ := HO.out.ok he
        have HA2 : Hid (Acc w2 base v2 (acc ++ (done ++ Bx.1))) := by
          show Acc _ _ _ _
          rw [← List.append_assoc]; exact hA2
        have HM2 : Hid (Moved w v v2) := HMv.out.trans (w1 := wr) (by
          rcases hM2 with hM2 | ⟨g, hg, hl⟩
          · exact .inl hM2
          · exact .inr ⟨g, hg, by simp at hl; omega⟩) hsz
        have HB2 : Hid (B = cat (done ++ Bx.1, 0) (goB (tyB n) (t.kids.drop (k + 1)))) := by
          have := HBk.out
          rw [goB_drop HX.out, ← HBX.out] at this
          exact go_next this he
        have HBD2 : Hid (acc.length + (done ++ Bx.1).length + ((t.kids.drop (k + 1)).map (wgt n)).sum ≤ 140737488355328) := by
          show _ ≤ _
          have := HBDk.out
          rw [sum_drop HX.out] at this
          have h2 := tyB_len n x
          rw [← HBX.out] at h2
          rw [List.length_append]; omega
        clear hA2 hM2
        rw [he]
        go_wp2_with fail
        go_roundw
        case rel => exact ⟨k + 1, done ++ Bx.1, by omega, by go_num, HA2, HB2, HBD2, HG2, HM2⟩
        case measure => simp [intOf]; omega
      · have t2 : (Bx.2 == 0) = false := by simpa using he
        have HE : Hid (B = ([], Bx.2)) := by
          have := HBk.out
          rw [goB_drop HX.out, ← HBX.out] at this
          exact go_fail this he
        have HHE : Hid _ := he
        clear he
        go_wp2_with fail
        go_ret2
        exact ⟨_, by rw [HE.out]; rfl, HG2, fun hh => absurd hh (by rw [HE.out]; exact HHE.out), fun _ => rfl⟩
    · have HE : Hid (B = (done, 0)) := by
        have := HBk.out
        rw [List.drop_eq_nil_of_le (by rw [HL.out]; omega), goB, cat_ok (by rfl) (by rfl), List.append_nil] at this
        exact this
      go_wp2_with fail
      go_ret2
      exact ⟨_, by rw [HE.out]; rfl, HG, fun _ => ⟨by rw [HE.out]; exact HAk, HMv⟩, fun hh => absurd (by rw [HE.out]) hh⟩

theorem On.then {base : Nat} {w w1 w2 : World} {v v1 v2 : Value} {acc : List Int} {B C : List Int × Int} (h : On base w v acc B w1 v1) (hb : B.2 = 0) (k : On base w1 v1 (acc ++ B.1) C w2 v2) : On base w v acc (cat B C) w2 v2 := by
  obtain ⟨hA, hM⟩ := h.ok hb
  refine ⟨grownBy_then h.grown hM k.grown, fun hc => ?_, fun hc => ?_⟩
  · rw [cat_err hb] at hc
    obtain ⟨kA, kM⟩ := k.ok hc
    refine ⟨?_, hM.trans kM h.grown.size⟩
    rw [cat_ok hb hc]
    show Acc _ _ _ (acc ++ (B.1 ++ C.1))
    rw [← List.append_assoc]; exact kA
  · rw [cat_err hb] at hc
    exact k.no hc

theorem On.stop {base : Nat} {w w1 : World} {v v1 : Value} {acc : List Int} {B C : List Int × Int} (h : On base w v acc B w1 v1) (hb : B.2 ≠ 0) : On base w v acc (cat B C) w1 (.slice none 0 0) := by
  rw [cat_no hb]
  exact ⟨h.grown, fun hc => absurd hc hb, fun _ => rfl⟩

/-- Behind a box. -/
theorem On.box {base : Nat} {w w1 : World} {v v1 : Value} {acc : List Int} {B : List Int × Int} {o : Obj} (h : On base (w.alloc o) v acc B w1 v1) : On base w v acc B w1 v1 := by
  refine ⟨(below_grownBy (below_one w o) _).trans h.grown, fun hb => ⟨(h.ok hb).1, ?_⟩, h.no⟩
  rcases (h.ok hb).2 with hm | ⟨g, hg, hl⟩
  · exact .inl hm
  · exact .inr ⟨g, hg, by simp at hl; omega⟩

theorem On.below {base : Nat} {w w0 w1 : World} {v v1 : Value} {acc : List Int} {B : List Int × Int} (hB : Below w.heap.size w w0) (h : On base w0 v acc B w1 v1) : On base w v acc B w1 v1 := by
  refine ⟨(below_grownBy hB _).trans h.grown, fun hb => ⟨(h.ok hb).1, ?_⟩, h.no⟩
  rcases (h.ok hb).2 with hm | ⟨g, hg, hl⟩
  · exact .inl hm
  · exact .inr ⟨g, hg, Nat.le_trans hB.size hl⟩

theorem cell_box (w : World) (c : Array Value) (ty : TypeId) (j : Nat) (u : Value) (hu : c[j]? = some u) : (w.alloc (.cells c ty)).cell? ⟨w.heap.size, j, none⟩ = some u := by
  rw [Lib.cell_of_heap (heap_alloc_new w _)]; exact hu

/-- A box's cell is still there. -/
theorem On.boxed {base : Nat} {w w1 : World} {v v1 : Value} {acc : List Int} {B : List Int × Int} {o : Obj} (h : On base (w.alloc o) v acc B w1 v1) (ha : Acc w base v acc) (j : Nat) : w1.cell? ⟨w.heap.size, j, none⟩ = (w.alloc o).cell? ⟨w.heap.size, j, none⟩ :=
  h.cell (a := ⟨w.heap.size, j, none⟩) (by simp) (fun e => by have := (ha.lt _ e).2; simp at this)

set_option maxHeartbeats 1000000 in
theorem putTuple_any (n : Nat) (ih : ∀ m, n = m + 1 → PutsTy m) {base : Nat} {w : World} {v : Value} {acc : List Int} {t : Ty} {na : Option Addr} {nl nc : Nat} {ka : Option Addr} {kl kc : Nat} (ha : Acc w base v acc) (hb0 : 0 < base) (hb : base ≤ w.heap.size)
    (h : TyAt n (fun k => k < base) w t na nl nc ka kl kc) (hT : Tab w) (hbd : acc.length + 2 + (t.kids.map (wgt n)).sum ≤ 140737488355328) {B : List Int × Int} (hB : B = cat (countB t.kids.length) (goB (tyB n) t.kids)) :
    Calls Tryd.prog 97 #[v, .agg #[.int .u16 t.id, .string t.space, .string t.name, .slice na nl nc, .slice ka kl kc]] w fun e w' => ∃ v', e = .returned (.tuple #[v', .int .i64 B.2]) ∧ Hid (On base w v acc B w' v') := by
  obtain ⟨C, hC⟩ : ∃ C, C = countB t.kids.length := ⟨_, rfl⟩
  obtain ⟨G, hG⟩ : ∃ G, G = goB (tyB n) t.kids := ⟨_, rfl⟩
  rw [← hC, ← hG] at hB
  rw [h.kl_eq] at hC
  have hkl := h.kl_le
  have HLM : Hid (kl ≤ maxLen) := Nat.le_trans hkl.1 hkl.2
  have HA : Hid (Acc w base v acc) := ha
  have H : Hid (TyAt n (fun k => k < base) w t na nl nc ka kl kc) := h
  have HT : Hid (Tab w) := hT
  have HB : Hid _ := hB
  have HC : Hid _ := hC
  have HGG : Hid _ := hG
  have HBD : Hid _ := hbd
  clear ha h hT hB hC hG hbd hkl
  go_enter Tryd.func97, Tryd.ntmps97
  go_wp2_with fail
  refine (putCount_any (HA.out.grown (below_one _ _)) (by simp; omega) (by have := HBD.out; omega) kl HLM.out HC.out).mono ?_
  rintro e w1 ⟨v1, rfl, hO⟩
  have hbx : w1.cell? ⟨w.heap.size, 4, .none⟩ = some (.slice ka kl kc) := (hO.boxed HA.out 4).trans (cell_box _ _ _ _ _ rfl)
  have HO : Hid (On _ _ _ _ _ _ _) := hO
  clear hO
  by_cases he : C.2 = 0
  · have HLT : Hid (∀ j, v.ownBlock = some j → base ≤ j) := fun j hj => (HA.out.lt j hj).1
    have HBD2 : Hid ((acc ++ C.1).length + (t.kids.map (wgt n)).sum ≤ 140737488355328) := by
      show _ ≤ _
      have := HBD.out
      have h2 := countB_len kl
      rw [← HC.out] at h2
      rw [List.length_append]; omega
    have hs1 := HO.out.grown.size
    simp at hs1
    rw [he]
    go_wp2_with fail
    refine (putKids_any n ih (HO.out.ok he).1 hb0 (by omega) ((H.out.old (below_one _ _)).on HO.out.grown HLT.out) ((HT.out.old (below_one _ _)).on HO.out.grown HLT.out hb0) HBD2.out HGG.out).mono ?_
    rintro e w2 ⟨v2, rfl, HO2⟩
    have HO3 : Hid (On base w v acc B w2 v2) := by
      show On _ _ _ _ _ _ _
      rw [HB.out]; exact (HO.out.then he HO2.out).box
    have HBE : Hid (B.2 = G.2) := by show _ = _; rw [HB.out, cat_err he]
    go_wp2_with fail
    go_ret2
    exact ⟨v2, by rw [HBE.out]; rfl, HO3⟩
  · have t2 : (C.2 == 0) = false := by simpa using he
    have HO3 : Hid (On base w v acc B w1 (.slice none 0 0)) := by
      show On _ _ _ _ _ _ _
      rw [HB.out]; exact (HO.out.stop he).box
    have HBE : Hid (B.2 = C.2) := by show _ = _; rw [HB.out, cat_no he]
    clear he
    go_wp2_with fail
    go_ret2
    exact ⟨_, by rw [HBE.out]; rfl, HO3⟩
end Go.Proofs.YtnapeecmlkkolaaDoor
