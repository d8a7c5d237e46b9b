/-
  Types of values as trees; how a tree lies in memory; and what the program's functions are on trees.
-/
import Derived.Test.YtnapeecmlkkolaaDoorPair
namespace Go.Proofs.YtnapeecmlkkolaaDoor
open Go.RowKit
set_option linter.unusedVariables false
set_option linter.unusedSimpArgs false

/-- A type as the document has it. -/
structure Ty where
  id : Int
  space : ByteArray
  name : ByteArray
  names : List ByteArray
  kids : List Ty

/-- A slice whose elements, size cells each, are seen as xs, in a block of F. -/
def Sees {α : Type} (size : Nat) (F : Nat → Prop) (V : α → (Nat → Value) → Prop) (w : World) (a : Option Addr) (len cap : Nat) (xs : List α) : Prop :=
  xs.length = len ∧ len ≤ cap ∧ cap ≤ maxLen ∧ (a = none → len = 0 ∧ cap = 0) ∧
  (0 < len → ∃ b off, a = some ⟨b, off, none⟩ ∧ b < w.heap.size ∧ F b ∧ ∀ i x, xs[i]? = some x → ∃ c : Nat → Value, (∀ j, j < size → w.cell? ⟨b, off + (i * size + j), none⟩ = some (c j)) ∧ V x c)

theorem Sees.mono {α : Type} {size : Nat} {F G : Nat → Prop} {V U : α → (Nat → Value) → Prop} {w W : World} {a : Option Addr} {len cap : Nat} {xs : List α} (h : Sees size F V w a len cap xs)
    (hF : ∀ k, k < w.heap.size → F k → G k ∧ W.heap[k]? = w.heap[k]?) (hs : w.heap.size ≤ W.heap.size) (hV : ∀ x c, x ∈ xs → V x c → U x c) : Sees size G U W a len cap xs := by
  obtain ⟨h1, h2, h3, h4, h5⟩ := h
  refine ⟨h1, h2, h3, h4, fun hp => ?_⟩
  obtain ⟨b, off, ha, hb, hFb, hc⟩ := h5 hp
  refine ⟨b, off, ha, Nat.lt_of_lt_of_le hb hs, (hF b hb hFb).1, fun i x hx => ?_⟩
  obtain ⟨c, hcell, hv⟩ := hc i x hx
  exact ⟨c, fun j hj => (World.cell?_of_block (w := w) (w' := W) (a := ⟨b, off + (i * size + j), none⟩) (hF b hb hFb).2).trans (hcell j hj), hV x c (List.mem_of_getElem? hx) hv⟩

theorem sees_nil {α : Type} (size : Nat) (F : Nat → Prop) (V : α → (Nat → Value) → Prop) (w : World) : Sees size F V w none 0 0 [] :=
  ⟨rfl, Nat.le_refl _, by unfold maxLen; omega, fun _ => ⟨rfl, rfl⟩, fun h => by omega⟩

/-- A text in a cell. -/
def VS (s : ByteArray) (c : Nat → Value) : Prop := c 0 = .string s ∧ s.size ≤ maxLen

/-- What a type's fields lead to. -/
def TyIn (F : Nat → Prop) (K : Ty → (Nat → Value) → Prop) (w : World) (t : Ty) (na : Option Addr) (nl nc : Nat) (ka : Option Addr) (kl kc : Nat) : Prop :=
  (0 ≤ t.id ∧ t.id < 65536) ∧ t.space.size ≤ maxLen ∧ t.name.size ≤ maxLen ∧ Sees 1 F VS w na nl nc t.names ∧ Sees 5 F K w ka kl kc t.kids

/-- A type, at most n deep, in five cells; all its blocks are of F. -/
def VT : Nat → (Nat → Prop) → World → Ty → (Nat → Value) → Prop
  | 0, _, _, _, _ => False
  | n + 1, F, w, t, c => ∃ na nl nc ka kl kc, c 0 = .int .u16 t.id ∧ c 1 = .string t.space ∧ c 2 = .string t.name ∧ c 3 = .slice na nl nc ∧ c 4 = .slice ka kl kc ∧ TyIn F (VT n F w) w t na nl nc ka kl kc

theorem VT.mono {n : Nat} {F G : Nat → Prop} {w W : World} (hF : ∀ k, k < w.heap.size → F k → G k ∧ W.heap[k]? = w.heap[k]?) (hs : w.heap.size ≤ W.heap.size) : ∀ {t : Ty} {c : Nat → Value}, VT n F w t c → VT n G W t c := by
  induction n with
  | zero => intro t c h; exact h.elim
  | succ n ih =>
    rintro t c ⟨na, nl, nc, ka, kl, kc, h0, h1, h2, h3, h4, hid, hs1, hs2, hn, hk⟩
    exact ⟨na, nl, nc, ka, kl, kc, h0, h1, h2, h3, h4, hid, hs1, hs2, hn.mono hF hs (fun _ _ _ h => h), hk.mono hF hs (fun _ _ _ h => ih h)⟩

/-- What a type's fields lead to, at most n deep. -/
def TyAt (n : Nat) (F : Nat → Prop) (w : World) (t : Ty) (na : Option Addr) (nl nc : Nat) (ka : Option Addr) (kl kc : Nat) : Prop := TyIn F (VT n F w) w t na nl nc ka kl kc

theorem TyAt.mono {n : Nat} {F G : Nat → Prop} {w W : World} {t : Ty} {na : Option Addr} {nl nc : Nat} {ka : Option Addr} {kl kc : Nat} (h : TyAt n F w t na nl nc ka kl kc)
    (hF : ∀ k, k < w.heap.size → F k → G k ∧ W.heap[k]? = w.heap[k]?) (hs : w.heap.size ≤ W.heap.size) : TyAt n G W t na nl nc ka kl kc := by
  obtain ⟨hid, hs1, hs2, hn, hk⟩ := h
  exact ⟨hid, hs1, hs2, hn.mono hF hs (fun _ _ _ h => h), hk.mono hF hs (fun _ _ _ h => VT.mono hF hs h)⟩

theorem TyAt.old {n : Nat} {F : Nat → Prop} {w W : World} {t : Ty} {na : Option Addr} {nl nc : Nat} {ka : Option Addr} {kl kc : Nat} (h : TyAt n F w t na nl nc ka kl kc) (hB : Below w.heap.size w W) : TyAt n F W t na nl nc ka kl kc :=
  h.mono (fun k hk hF => ⟨hF, hB.block k hk⟩) hB.size

/-- A kid's five cells, and what they lead to. -/
theorem TyAt.kid {n : Nat} {F : Nat → Prop} {w : World} {t : Ty} {na : Option Addr} {nl nc : Nat} {ka : Option Addr} {kl kc : Nat} (h : TyAt (n + 1) F w t na nl nc ka kl kc) {k : Nat} (hk : k < kl) :
    ∃ x b off xa xl xc ya yl yc, t.kids[k]? = some x ∧ ka = some ⟨b, off, none⟩ ∧ b < w.heap.size ∧ w.cell? ⟨b, off + k * 5, none⟩ = some (.int .u16 x.id) ∧ w.cell? ⟨b, off + k * 5 + 1, none⟩ = some (.string x.space) ∧ w.cell? ⟨b, off + k * 5 + 2, none⟩ = some (.string x.name) ∧
      w.cell? ⟨b, off + k * 5 + 3, none⟩ = some (.slice xa xl xc) ∧ w.cell? ⟨b, off + k * 5 + 4, none⟩ = some (.slice ya yl yc) ∧ TyAt n F w x xa xl xc ya yl yc := by
  obtain ⟨hid, hs1, hs2, hn, h1, h2, h3, h4, h5⟩ := h
  obtain ⟨b, off, ha, hb, hFb, hc⟩ := h5 (by omega)
  have hx : t.kids[k]? = some t.kids[k] := List.getElem?_eq_getElem (by omega)
  obtain ⟨c, hcell, xa, xl, xc, ya, yl, yc, c0, c1, c2, c3, c4, hin⟩ := hc k _ hx
  refine ⟨_, b, off, xa, xl, xc, ya, yl, yc, hx, ha, hb, ?_, ?_, ?_, ?_, ?_, hin⟩
  · rw [← c0]; exact hcell 0 (by omega)
  · rw [← c1, Nat.add_assoc]; exact hcell 1 (by omega)
  · rw [← c2, Nat.add_assoc]; exact hcell 2 (by omega)
  · rw [← c3, Nat.add_assoc]; exact hcell 3 (by omega)
  · rw [← c4, Nat.add_assoc]; exact hcell 4 (by omega)

/-- Deeper than so much? -/
def deepB : Nat → Ty → Bool
  | 0, _ => true
  | k + 1, t => t.kids.any (deepB k)

theorem TyAt.kl_eq {n : Nat} {F : Nat → Prop} {w : World} {t : Ty} {na : Option Addr} {nl nc : Nat} {ka : Option Addr} {kl kc : Nat} (h : TyAt n F w t na nl nc ka kl kc) : t.kids.length = kl := h.2.2.2.2.1
theorem TyAt.nl_eq {n : Nat} {F : Nat → Prop} {w : World} {t : Ty} {na : Option Addr} {nl nc : Nat} {ka : Option Addr} {kl kc : Nat} (h : TyAt n F w t na nl nc ka kl kc) : t.names.length = nl := h.2.2.2.1.1
theorem TyAt.kl_le {n : Nat} {F : Nat → Prop} {w : World} {t : Ty} {na : Option Addr} {nl nc : Nat} {ka : Option Addr} {kl kc : Nat} (h : TyAt n F w t na nl nc ka kl kc) : kl ≤ kc ∧ kc ≤ maxLen := ⟨h.2.2.2.2.2.1, h.2.2.2.2.2.2.1⟩
theorem TyAt.nl_le {n : Nat} {F : Nat → Prop} {w : World} {t : Ty} {na : Option Addr} {nl nc : Nat} {ka : Option Addr} {kl kc : Nat} (h : TyAt n F w t na nl nc ka kl kc) : nl ≤ nc ∧ nc ≤ maxLen := ⟨h.2.2.2.1.2.1, h.2.2.2.1.2.2.1⟩
theorem TyAt.idr {n : Nat} {F : Nat → Prop} {w : World} {t : Ty} {na : Option Addr} {nl nc : Nat} {ka : Option Addr} {kl kc : Nat} (h : TyAt n F w t na nl nc ka kl kc) : 0 ≤ t.id ∧ t.id < 65536 := h.1

theorem any_step {p : Ty → Bool} {xs : List Ty} {k : Nat} {x : Ty} {r : Bool} (h : (xs.drop k).any p = r) (hx : xs[k]? = some x) (hp : p x = false) : (xs.drop (k + 1)).any p = r := by
  have hk := (List.getElem?_eq_some_iff.1 hx).1
  rw [List.drop_eq_getElem_cons hk, List.any_cons, (List.getElem?_eq_some_iff.1 hx).2, hp, Bool.false_or] at h
  exact h
theorem any_stop {p : Ty → Bool} {xs : List Ty} {k : Nat} {x : Ty} {r : Bool} (h : (xs.drop k).any p = r) (hx : xs[k]? = some x) (hp : p x = true) : r = true := by
  have hk := (List.getElem?_eq_some_iff.1 hx).1
  rw [List.drop_eq_getElem_cons hk, List.any_cons, (List.getElem?_eq_some_iff.1 hx).2, hp, Bool.true_or] at h
  exact h.symm
theorem any_end {p : Ty → Bool} {xs : List Ty} {k : Nat} {r : Bool} (h : (xs.drop k).any p = r) (hk : xs.length ≤ k) : r = false := by
  rw [List.drop_eq_nil_of_le hk, List.any_nil] at h
  exact h.symm

set_option maxHeartbeats 1000000 in
theorem isDeeper_any (F : Nat → Prop) (m : Nat) (hm : m ≤ 1000) : ∀ (n : Nat) (w : World) (t : Ty) (na : Option Addr) (nl nc : Nat) (ka : Option Addr) (kl kc : Nat), TyAt n F w t na nl nc ka kl kc → ∀ d : Bool, d = deepB m t → ∀ p : Int, p = m →
    Calls Tryd.prog 88 #[.agg #[.int .u16 t.id, .string t.space, .string t.name, .slice na nl nc, .slice ka kl kc], .int .i64 p] w fun e w' => e = .returned (.bool d) ∧ Below w.heap.size w w' := by
  induction m with
  | zero =>
    intro n w t na nl nc ka kl kc h d hd p hp
    subst hp
    obtain rfl : d = true := hd
    clear h
    go_enter Tryd.func88, Tryd.ntmps88
    go_wp2_with fail
    go_ret
    exact ⟨rfl, below_one _ _⟩
  | succ m ih =>
    intro n w t na nl nc ka kl kc h d hd p hp
    have HD : Hid (t.kids.any (deepB m) = d) := hd.symm
    have hkl := h.kl_le
    unfold maxLen at hkl
    have hp1 : 1 ≤ p := by omega
    have hp2 : p ≤ 1000 := by omega
    have HP : Hid (p - 1 = m) := by show _ = _; omega
    have HL : Hid (t.kids.length = kl) := h.kl_eq
    have H : Hid (TyAt n F w t na nl nc ka kl kc) := h
    have IH : Hid _ := ih (by omega)
    clear h hd ih hp
    go_enter Tryd.func88, Tryd.ntmps88
    go_wp2_with fail
    go_loopw [12] (fun i wr => ∃ k : Nat, k ≤ kl ∧ i = .int .i64 k ∧ Hid ((t.kids.drop k).any (deepB m) = d) ∧ Below w.heap.size w wr) (fun i _ => kl - (intOf i).toNat)
    case atStart => exact ⟨0, by omega, rfl, HD, below_one _ _⟩
    case round =>
      obtain ⟨k, hk, rfl, HG, hB⟩ := hrel
      by_cases hlt : k < kl
      · obtain ⟨n, rfl⟩ : ∃ n', n = n' + 1 := by
          cases n with
          | zero => obtain ⟨_, _, _, _, h1, _, _, _, h5⟩ := H.out; exact absurd hlt (by
              intro hlt
              obtain ⟨b, off, ha, hb, hFb, hc⟩ := h5 (by omega)
              obtain ⟨c, _, hf⟩ := hc 0 _ (List.getElem?_eq_getElem (by omega))
              exact hf)
          | succ n => exact ⟨n, rfl⟩
        obtain ⟨x, b, off, xa, xl, xc, ya, yl, yc, hx, rfl, hbs, c0, c1, c2, c3, c4, hin⟩ := (H.out.old hB).kid hlt
        obtain ⟨dx, hdx⟩ : ∃ dx, dx = deepB m x := ⟨_, rfl⟩
        have HX : Hid _ := hx
        have HIN : Hid (TyAt _ _ _ _ _ _ _ _ _ _) := hin
        have HDX : Hid _ := hdx
        clear hx hin hdx
        go_wp2_with fail
        refine (IH.out n _ x xa xl xc ya yl yc (HIN.out.old (below_one _ _)) dx HDX.out _ HP.out).mono ?_
        rintro e w2 ⟨rfl, hB2⟩
        cases dx with
        | true =>
          obtain rfl := any_stop HG.out HX.out HDX.out.symm
          go_wp2_with fail
          go_ret
          exact ⟨rfl, hB.trans ((below_one wr _).trans (hB2.mono (by simp)) |>.mono hB.size)⟩
        | false =>
          have HG2 : Hid _ := any_step HG.out HX.out HDX.out.symm
          go_wp2_with fail
          go_roundw
          case rel => exact ⟨k + 1, by omega, by go_num, HG2, hB.trans ((below_one wr _).trans (hB2.mono (by simp)) |>.mono hB.size)⟩
          case measure => simp [intOf]; omega
      · obtain rfl := any_end HG.out (by rw [HL.out]; omega)
        go_wp2_with fail
        go_ret
        exact ⟨rfl, hB⟩
end Go.Proofs.YtnapeecmlkkolaaDoor
