/-
  Tree, Parts, On, PutT, PutU, laid together.
-/
import Derived.Test.YtnapeecmlkkolaaDoorAa
import Derived.Maps.AppendAt
import Derived.Maps.Range
import Derived.Deep.AppendLies
namespace Go.Proofs.YtnapeecmlkkolaaDoor
open Go.RowKit
set_option linter.unusedVariables false
set_option linter.unusedSimpArgs false

/-- A type as the document has it. -/
structure Ty where
  id : Int
  space : ByteArray
  name : ByteArray
  names : List ByteArray
  kids : List Ty

/-- A slice whose elements, size cells each, are seen as xs, in a block of F. -/
def Sees {α : Type} (size : Nat) (F : Nat → Prop) (V : α → (Nat → Value) → Prop) (w : World) (a : Option Addr) (len cap : Nat) (xs : List α) : Prop :=
  xs.length = len ∧ len ≤ cap ∧ cap ≤ maxLen ∧ (a = none → len = 0 ∧ cap = 0) ∧
  (0 < len → ∃ b off, a = some ⟨b, off, none⟩ ∧ b < w.heap.size ∧ F b ∧ ∀ i x, xs[i]? = some x → ∃ c : Nat → Value, (∀ j, j < size → w.cell? ⟨b, off + (i * size + j), none⟩ = some (c j)) ∧ V x c)

theorem Sees.mono {α : Type} {size : Nat} {F G : Nat → Prop} {V U : α → (Nat → Value) → Prop} {w W : World} {a : Option Addr} {len cap : Nat} {xs : List α} (h : Sees size F V w a len cap xs)
    (hF : ∀ k, k < w.heap.size → F k → G k ∧ W.heap[k]? = w.heap[k]?) (hs : w.heap.size ≤ W.heap.size) (hV : ∀ x c, x ∈ xs → V x c → U x c) : Sees size G U W a len cap xs := by
  obtain ⟨h1, h2, h3, h4, h5⟩ := h
  refine ⟨h1, h2, h3, h4, fun hp => ?_⟩
  obtain ⟨b, off, ha, hb, hFb, hc⟩ := h5 hp
  refine ⟨b, off, ha, Nat.lt_of_lt_of_le hb hs, (hF b hb hFb).1, fun i x hx => ?_⟩
  obtain ⟨c, hcell, hv⟩ := hc i x hx
  exact ⟨c, fun j hj => (World.cell?_of_block (w := w) (w' := W) (a := ⟨b, off + (i * size + j), none⟩) (hF b hb hFb).2).trans (hcell j hj), hV x c (List.mem_of_getElem? hx) hv⟩

theorem sees_nil {α : Type} (size : Nat) (F : Nat → Prop) (V : α → (Nat → Value) → Prop) (w : World) : Sees size F V w none 0 0 [] :=
  ⟨rfl, Nat.le_refl _, by unfold maxLen; omega, fun _ => ⟨rfl, rfl⟩, fun h => by omega⟩

/-- A text in a cell. -/
def VS (s : ByteArray) (c : Nat → Value) : Prop := c 0 = .string s ∧ s.size ≤ maxLen

/-- What a type's fields lead to. -/
def TyIn (F : Nat → Prop) (K : Ty → (Nat → Value) → Prop) (w : World) (t : Ty) (na : Option Addr) (nl nc : Nat) (ka : Option Addr) (kl kc : Nat) : Prop :=
  (0 ≤ t.id ∧ t.id < 65536) ∧ t.space.size ≤ maxLen ∧ t.name.size ≤ maxLen ∧ Sees 1 F VS w na nl nc t.names ∧ Sees 5 F K w ka kl kc t.kids

/-- A type, at most n deep, in five cells; all its blocks are of F. -/
def VT : Nat → (Nat → Prop) → World → Ty → (Nat → Value) → Prop
  | 0, _, _, _, _ => False
  | n + 1, F, w, t, c => ∃ na nl nc ka kl kc, c 0 = .int .u16 t.id ∧ c 1 = .string t.space ∧ c 2 = .string t.name ∧ c 3 = .slice na nl nc ∧ c 4 = .slice ka kl kc ∧ TyIn F (VT n F w) w t na nl nc ka kl kc

theorem VT.mono {n : Nat} {F G : Nat → Prop} {w W : World} (hF : ∀ k, k < w.heap.size → F k → G k ∧ W.heap[k]? = w.heap[k]?) (hs : w.heap.size ≤ W.heap.size) : ∀ {t : Ty} {c : Nat → Value}, VT n F w t c → VT n G W t c := by
  induction n with
  | zero => intro t c h; exact h.elim
  | succ n ih =>
    rintro t c ⟨na, nl, nc, ka, kl, kc, h0, h1, h2, h3, h4, hid, hs1, hs2, hn, hk⟩
    exact ⟨na, nl, nc, ka, kl, kc, h0, h1, h2, h3, h4, hid, hs1, hs2, hn.mono hF hs (fun _ _ _ h => h), hk.mono hF hs (fun _ _ _ h => ih h)⟩

/-- What a type's fields lead to, at most n deep. -/
def TyAt (n : Nat) (F : Nat → Prop) (w : World) (t : Ty) (na : Option Addr) (nl nc : Nat) (ka : Option Addr) (kl kc : Nat) : Prop := TyIn F (VT n F w) w t na nl nc ka kl kc

theorem TyAt.mono {n : Nat} {F G : Nat → Prop} {w W : World} {t : Ty} {na : Option Addr} {nl nc : Nat} {ka : Option Addr} {kl kc : Nat} (h : TyAt n F w t na nl nc ka kl kc)
    (hF : ∀ k, k < w.heap.size → F k → G k ∧ W.heap[k]? = w.heap[k]?) (hs : w.heap.size ≤ W.heap.size) : TyAt n G W t na nl nc ka kl kc := by
  obtain ⟨hid, hs1, hs2, hn, hk⟩ := h
  exact ⟨hid, hs1, hs2, hn.mono hF hs (fun _ _ _ h => h), hk.mono hF hs (fun _ _ _ h => VT.mono hF hs h)⟩

theorem TyAt.old {n : Nat} {F : Nat → Prop} {w W : World} {t : Ty} {na : Option Addr} {nl nc : Nat} {ka : Option Addr} {kl kc : Nat} (h : TyAt n F w t na nl nc ka kl kc) (hB : Below w.heap.size w W) : TyAt n F W t na nl nc ka kl kc :=
  h.mono (fun k hk hF => ⟨hF, hB.block k hk⟩) hB.size

/-- A kid's five cells, and what they lead to. -/
theorem TyAt.kid {n : Nat} {F : Nat → Prop} {w : World} {t : Ty} {na : Option Addr} {nl nc : Nat} {ka : Option Addr} {kl kc : Nat} (h : TyAt (n + 1) F w t na nl nc ka kl kc) {k : Nat} (hk : k < kl) :
    ∃ x b off xa xl xc ya yl yc, t.kids[k]? = some x ∧ ka = some ⟨b, off, none⟩ ∧ b < w.heap.size ∧ w.cell? ⟨b, off + k * 5, none⟩ = some (.int .u16 x.id) ∧ w.cell? ⟨b, off + k * 5 + 1, none⟩ = some (.string x.space) ∧ w.cell? ⟨b, off + k * 5 + 2, none⟩ = some (.string x.name) ∧
      w.cell? ⟨b, off + k * 5 + 3, none⟩ = some (.slice xa xl xc) ∧ w.cell? ⟨b, off + k * 5 + 4, none⟩ = some (.slice ya yl yc) ∧ TyAt n F w x xa xl xc ya yl yc := by
  obtain ⟨hid, hs1, hs2, hn, h1, h2, h3, h4, h5⟩ := h
  obtain ⟨b, off, ha, hb, hFb, hc⟩ := h5 (by omega)
  have hx : t.kids[k]? = some t.kids[k] := List.getElem?_eq_getElem (by omega)
  obtain ⟨c, hcell, xa, xl, xc, ya, yl, yc, c0, c1, c2, c3, c4, hin⟩ := hc k _ hx
  refine ⟨_, b, off, xa, xl, xc, ya, yl, yc, hx, ha, hb, ?_, ?_, ?_, ?_, ?_, hin⟩
  · rw [← c0]; exact hcell 0 (by omega)
  · rw [← c1, Nat.add_assoc]; exact hcell 1 (by omega)
  · rw [← c2, Nat.add_assoc]; exact hcell 2 (by omega)
  · rw [← c3, Nat.add_assoc]; exact hcell 3 (by omega)
  · rw [← c4, Nat.add_assoc]; exact hcell 4 (by omega)

/-- Deeper than so much? -/
def deepB : Nat → Ty → Bool
  | 0, _ => true
  | k + 1, t => t.kids.any (deepB k)

theorem TyAt.kl_eq {n : Nat} {F : Nat → Prop} {w : World} {t : Ty} {na : Option Addr} {nl nc : Nat} {ka : Option Addr} {kl kc : Nat} (h : TyAt n F w t na nl nc ka kl kc) : t.kids.length = kl := h.2.2.2.2.1
theorem TyAt.nl_eq {n : Nat} {F : Nat → Prop} {w : World} {t : Ty} {na : Option Addr} {nl nc : Nat} {ka : Option Addr} {kl kc : Nat} (h : TyAt n F w t na nl nc ka kl kc) : t.names.length = nl := h.2.2.2.1.1
theorem TyAt.kl_le {n : Nat} {F : Nat → Prop} {w : World} {t : Ty} {na : Option Addr} {nl nc : Nat} {ka : Option Addr} {kl kc : Nat} (h : TyAt n F w t na nl nc ka kl kc) : kl ≤ kc ∧ kc ≤ maxLen := ⟨h.2.2.2.2.2.1, h.2.2.2.2.2.2.1⟩
theorem TyAt.nl_le {n : Nat} {F : Nat → Prop} {w : World} {t : Ty} {na : Option Addr} {nl nc : Nat} {ka : Option Addr} {kl kc : Nat} (h : TyAt n F w t na nl nc ka kl kc) : nl ≤ nc ∧ nc ≤ maxLen := ⟨h.2.2.2.1.2.1, h.2.2.2.1.2.2.1⟩
theorem TyAt.idr {n : Nat} {F : Nat → Prop} {w : World} {t : Ty} {na : Option Addr} {nl nc : Nat} {ka : Option Addr} {kl kc : Nat} (h : TyAt n F w t na nl nc ka kl kc) : 0 ≤ t.id ∧ t.id < 65536 := h.1

theorem any_step {p : Ty → Bool} {xs : List Ty} {k : Nat} {x : Ty} {r : Bool} (h : (xs.drop k).any p = r) (hx : xs[k]? = some x) (hp : p x = false) : (xs.drop (k + 1)).any p = r := by
  have hk := (List.getElem?_eq_some_iff.1 hx).1
  rw [List.drop_eq_getElem_cons hk, List.any_cons, (List.getElem?_eq_some_iff.1 hx).2, hp, Bool.false_or] at h
  exact h
theorem any_stop {p : Ty → Bool} {xs : List Ty} {k : Nat} {x : Ty} {r : Bool} (h : (xs.drop k).any p = r) (hx : xs[k]? = some x) (hp : p x = true) : r = true := by
  have hk := (List.getElem?_eq_some_iff.1 hx).1
  rw [List.drop_eq_getElem_cons hk, List.any_cons, (List.getElem?_eq_some_iff.1 hx).2, hp, Bool.true_or] at h
  exact h.symm
theorem any_end {p : Ty → Bool} {xs : List Ty} {k : Nat} {r : Bool} (h : (xs.drop k).any p = r) (hk : xs.length ≤ k) : r = false := by
  rw [List.drop_eq_nil_of_le hk, List.any_nil] at h
  exact h.symm

set_option maxHeartbeats 1000000 in
theorem isDeeper_any (F : Nat → Prop) (m : Nat) (hm : m ≤ 1000) : ∀ (n : Nat) (w : World) (t : Ty) (na : Option Addr) (nl nc : Nat) (ka : Option Addr) (kl kc : Nat), TyAt n F w t na nl nc ka kl kc → ∀ d : Bool, d = deepB m t → ∀ p : Int, p = m →
    Calls Tryd.prog 88 #[.agg #[.int .u16 t.id, .string t.space, .string t.name, .slice na nl nc, .slice ka kl kc], .int .i64 p] w fun e w' => e = .returned (.bool d) ∧ Below w.heap.size w w' := by
  induction m with
  | zero =>
    intro n w t na nl nc ka kl kc h d hd p hp
    subst hp
    obtain rfl : d = true := hd
    clear h
    go_enter Tryd.func88, Tryd.ntmps88
    go_wp2_with fail
    go_ret
    exact ⟨rfl, below_one _ _⟩
  | succ m ih =>
    intro n w t na nl nc ka kl kc h d hd p hp
    have HD : Hid (t.kids.any (deepB m) = d) := hd.symm
    have hkl := h.kl_le
    unfold maxLen at hkl
    have hp1 : 1 ≤ p := by omega
    have hp2 : p ≤ 1000 := by omega
    have HP : Hid (p - 1 = m) := by show _ = _; omega
    have HL : Hid (t.kids.length = kl) := h.kl_eq
    have H : Hid (TyAt n F w t na nl nc ka kl kc) := h
    have IH : Hid _ := ih (by omega)
    clear h hd ih hp
    go_enter Tryd.func88, Tryd.ntmps88
    go_wp2_with fail
    go_loopw [12] (fun i wr => ∃ k : Nat, k ≤ kl ∧ i = .int .i64 k ∧ Hid ((t.kids.drop k).any (deepB m) = d) ∧ Below w.heap.size w wr) (fun i _ => kl - (intOf i).toNat)
    case atStart => exact ⟨0, by omega, rfl, HD, below_one _ _⟩
    case round =>
      obtain ⟨k, hk, rfl, HG, hB⟩ := hrel
      by_cases hlt : k < kl
      · obtain ⟨n, rfl⟩ : ∃ n', n = n' + 1 := by
          cases n with
          | zero => obtain ⟨_, _, _, _, h1, _, _, _, h5⟩ := H.out; exact absurd hlt (by
              intro hlt
              obtain ⟨b, off, ha, hb, hFb, hc⟩ := h5 (by omega)
              obtain ⟨c, _, hf⟩ := hc 0 _ (List.getElem?_eq_getElem (by omega))
              exact hf)
          | succ n => exact ⟨n, rfl⟩
        obtain ⟨x, b, off, xa, xl, xc, ya, yl, yc, hx, rfl, hbs, c0, c1, c2, c3, c4, hin⟩ := (H.out.old hB).kid hlt
        obtain ⟨dx, hdx⟩ : ∃ dx, dx = deepB m x := ⟨_, rfl⟩
        have HX : Hid _ := hx
        have HIN : Hid (TyAt _ _ _ _ _ _ _ _ _ _) := hin
        have HDX : Hid _ := hdx
        clear hx hin hdx
        go_wp2_with fail
        refine (IH.out n _ x xa xl xc ya yl yc (HIN.out.old (below_one _ _)) dx HDX.out _ HP.out).mono ?_
        rintro e w2 ⟨rfl, hB2⟩
        cases dx with
        | true =>
          obtain rfl := any_stop HG.out HX.out HDX.out.symm
          go_wp2_with fail
          go_ret
          exact ⟨rfl, hB.trans ((below_one wr _).trans (hB2.mono (by simp)) |>.mono hB.size)⟩
        | false =>
          have HG2 : Hid _ := any_step HG.out HX.out HDX.out.symm
          go_wp2_with fail
          go_roundw
          case rel => exact ⟨k + 1, by omega, by go_num, HG2, hB.trans ((below_one wr _).trans (hB2.mono (by simp)) |>.mono hB.size)⟩
          case measure => simp [intOf]; omega
      · obtain rfl := any_end HG.out (by rw [HL.out]; omega)
        go_wp2_with fail
        go_ret
        exact ⟨rfl, hB⟩
end Go.Proofs.YtnapeecmlkkolaaDoor

namespace Go.Proofs.YtnapeecmlkkolaaDoor
open Go.RowKit
set_option linter.unusedVariables false
set_option linter.unusedSimpArgs false

/-- The plain types' names. -/
def plainTab : List ByteArray := [⟨#[]⟩, ⟨#[97, 115, 99, 105, 105]⟩, ⟨#[98, 105, 103, 105, 110, 116]⟩, ⟨#[98, 108, 111, 98]⟩, ⟨#[98, 111, 111, 108, 101, 97, 110]⟩, ⟨#[99, 111, 117, 110, 116, 101, 114]⟩, ⟨#[100, 101, 99, 105, 109, 97, 108]⟩, ⟨#[100, 111, 117, 98, 108, 101]⟩, ⟨#[102, 108, 111, 97, 116]⟩, ⟨#[105, 110, 116]⟩, ⟨#[]⟩,
  ⟨#[116, 105, 109, 101, 115, 116, 97, 109, 112]⟩, ⟨#[117, 117, 105, 100]⟩, ⟨#[118, 97, 114, 99, 104, 97, 114]⟩, ⟨#[118, 97, 114, 105, 110, 116]⟩, ⟨#[116, 105, 109, 101, 117, 117, 105, 100]⟩, ⟨#[105, 110, 101, 116]⟩, ⟨#[100, 97, 116, 101]⟩, ⟨#[116, 105, 109, 101]⟩, ⟨#[115, 109, 97, 108, 108, 105, 110, 116]⟩, ⟨#[116, 105, 110, 121, 105, 110, 116]⟩]

def plainAt (i : Nat) : ByteArray := plainTab.getD i ⟨#[]⟩

/-- The program's table lies in its block. -/
structure Tab (w : World) : Prop where
  cell : ∀ i, i < 21 → w.cell? ⟨0, i, none⟩ = some (.string (plainAt i))
  lt : 0 < w.heap.size

theorem Tab.below {w W : World} {base : Nat} (h : Tab w) (hB : Below base w W) (hb : 0 < base) : Tab W := ⟨fun i hi => (hB.cell (p := ⟨0, i, none⟩) hb).trans (h.cell i hi), Nat.lt_of_lt_of_le h.lt hB.size⟩
theorem Tab.old {w W : World} (h : Tab w) (hB : Below w.heap.size w W) : Tab W := h.below hB h.lt

def plainB (id : Int) : Bool := decide (1 ≤ id) && decide (id ≤ 20) && !decide (id = 10)

theorem plain_tab : ∀ i : Fin 21, (!(plainAt i.val).toList.isEmpty) = plainB i.val := by decide +kernel

set_option maxHeartbeats 400000 in
theorem isPlain_no (w : World) (id : Int) (h : 21 ≤ id) (h2 : id < 65536) : Calls Tryd.prog 93 #[.int .u16 id] w fun e w' => e = .returned (.bool false) ∧ w' = w := by
  go_enter Tryd.func93, Tryd.ntmps93
  go_wp2_with fail
  go_ret
  exact ⟨rfl, rfl⟩

set_option maxHeartbeats 400000 in
theorem isPlain_yes (w : World) (hT : Tab w) (i : Nat) (h : i < 21) : Calls Tryd.prog 93 #[.int .u16 i] w fun e w' => e = .returned (.bool (plainB i)) ∧ w' = w := by
  have hc := hT.cell i h
  have HP : Hid _ := plain_tab ⟨i, h⟩
  generalize plainAt i = s at *
  clear hT
  go_enter Tryd.func93, Tryd.ntmps93
  go_wp2_with fail
  go_ret
  exact ⟨by rw [← HP.out]; rfl, rfl⟩

theorem isPlain_any (w : World) (hT : Tab w) (id : Int) (h0 : 0 ≤ id) (h2 : id < 65536) {d : Bool} (hd : d = plainB id) : Calls Tryd.prog 93 #[.int .u16 id] w fun e w' => e = .returned (.bool d) ∧ w' = w := by
  subst hd
  by_cases h : 21 ≤ id
  · have : plainB id = false := by simp [plainB]; omega
    rw [this]
    exact isPlain_no w id h h2
  · obtain ⟨i, rfl⟩ := Int.eq_ofNat_of_zero_le h0
    exact isPlain_yes w hT i (by omega)

/-- There is such an Id, and there are just so many kids and names. -/
def hasB (id : Int) (kids names : Nat) : Bool :=
  if id = 0 then decide (kids = 0) && decide (names = 0) else if id = 32 ∨ id = 34 then decide (kids = 1) && decide (names = 0) else if id = 33 then decide (kids = 2) && decide (names = 0)
  else if id = 48 then decide (kids = names) else if id = 49 then decide (names = 0) else plainB id && decide (kids = 0) && decide (names = 0)

theorem eq_i (a : Nat) (b : Nat) : ((a : Int) == (b : Int)) = decide (a = b) := by
  by_cases h : a = b
  · simp [h]
  · rw [decide_eq_false h]; exact beq_eq_false_iff_ne.2 (by omega)
theorem eq_0 (a : Nat) : ((a : Int) == 0) = decide (a = 0) := eq_i a 0

set_option maxHeartbeats 1000000 in
theorem has_custom (w : World) (sp nm : ByteArray) (na : Option Addr) (nl nc : Nat) (ka : Option Addr) (kl kc : Nat) (hk : kl ≤ maxLen) (hn : nl ≤ maxLen) :
    Calls Tryd.prog 94 #[.agg #[.int .u16 0, .string sp, .string nm, .slice na nl nc, .slice ka kl kc]] w fun e w' => e = .returned (.bool (hasB 0 kl nl)) ∧ Below w.heap.size w w' := by
  unfold maxLen at hk hn
  by_cases h : kl = 0
  · subst h
    go_enter Tryd.func94, Tryd.ntmps94
    go_wp2_with fail
    go_quiet (fail)
    go_wp2_with fail
    go_ret
    exact ⟨by simp [hasB, eq_0], below_drewN (below_one _ _) _⟩
  · have t : ((kl : Int) == 0) = false := by rw [show ((0 : Int)) = ((0 : Nat) : Int) from rfl, eq_i]; exact decide_eq_false h
    go_enter Tryd.func94, Tryd.ntmps94
    go_wp2_with fail
    go_quiet (fail)
    go_wp2_with fail
    go_ret
    exact ⟨by simp [hasB, h], below_drewN (below_one _ _) _⟩

set_option maxHeartbeats 1000000 in
theorem has_list (w : World) (sp nm : ByteArray) (na : Option Addr) (nl nc : Nat) (ka : Option Addr) (kl kc : Nat) (hk : kl ≤ maxLen) (hn : nl ≤ maxLen) :
    Calls Tryd.prog 94 #[.agg #[.int .u16 32, .string sp, .string nm, .slice na nl nc, .slice ka kl kc]] w fun e w' => e = .returned (.bool (hasB 32 kl nl)) ∧ Below w.heap.size w w' := by
  unfold maxLen at hk hn
  by_cases h : kl = 1
  · subst h
    go_enter Tryd.func94, Tryd.ntmps94
    go_wp2_with fail
    go_quiet (fail)
    go_wp2_with fail
    go_ret
    exact ⟨by simp [hasB, eq_0], below_drewN (below_one _ _) _⟩
  · have t : ((kl : Int) == 1) = false := by rw [show ((1 : Int)) = ((1 : Nat) : Int) from rfl, eq_i]; exact decide_eq_false h
    go_enter Tryd.func94, Tryd.ntmps94
    go_wp2_with fail
    go_quiet (fail)
    go_wp2_with fail
    go_ret
    exact ⟨by simp [hasB, h], below_drewN (below_one _ _) _⟩

set_option maxHeartbeats 1000000 in
theorem has_set (w : World) (sp nm : ByteArray) (na : Option Addr) (nl nc : Nat) (ka : Option Addr) (kl kc : Nat) (hk : kl ≤ maxLen) (hn : nl ≤ maxLen) :
    Calls Tryd.prog 94 #[.agg #[.int .u16 34, .string sp, .string nm, .slice na nl nc, .slice ka kl kc]] w fun e w' => e = .returned (.bool (hasB 34 kl nl)) ∧ Below w.heap.size w w' := by
  unfold maxLen at hk hn
  by_cases h : kl = 1
  · subst h
    go_enter Tryd.func94, Tryd.ntmps94
    go_wp2_with fail
    go_quiet (fail)
    go_wp2_with fail
    go_ret
    exact ⟨by simp [hasB, eq_0], below_drewN (below_one _ _) _⟩
  · have t : ((kl : Int) == 1) = false := by rw [show ((1 : Int)) = ((1 : Nat) : Int) from rfl, eq_i]; exact decide_eq_false h
    go_enter Tryd.func94, Tryd.ntmps94
    go_wp2_with fail
    go_quiet (fail)
    go_wp2_with fail
    go_ret
    exact ⟨by simp [hasB, h], below_drewN (below_one _ _) _⟩

set_option maxHeartbeats 1000000 in
theorem has_map (w : World) (sp nm : ByteArray) (na : Option Addr) (nl nc : Nat) (ka : Option Addr) (kl kc : Nat) (hk : kl ≤ maxLen) (hn : nl ≤ maxLen) :
    Calls Tryd.prog 94 #[.agg #[.int .u16 33, .string sp, .string nm, .slice na nl nc, .slice ka kl kc]] w fun e w' => e = .returned (.bool (hasB 33 kl nl)) ∧ Below w.heap.size w w' := by
  unfold maxLen at hk hn
  by_cases h : kl = 2
  · subst h
    go_enter Tryd.func94, Tryd.ntmps94
    go_wp2_with fail
    go_quiet (fail)
    go_wp2_with fail
    go_ret
    exact ⟨by simp [hasB, eq_0], below_drewN (below_one _ _) _⟩
  · have t : ((kl : Int) == 2) = false := by rw [show ((2 : Int)) = ((2 : Nat) : Int) from rfl, eq_i]; exact decide_eq_false h
    go_enter Tryd.func94, Tryd.ntmps94
    go_wp2_with fail
    go_quiet (fail)
    go_wp2_with fail
    go_ret
    exact ⟨by simp [hasB, h], below_drewN (below_one _ _) _⟩

set_option maxHeartbeats 1000000 in
theorem has_udt (w : World) (sp nm : ByteArray) (na : Option Addr) (nl nc : Nat) (ka : Option Addr) (kl kc : Nat) (hk : kl ≤ maxLen) (hn : nl ≤ maxLen) :
    Calls Tryd.prog 94 #[.agg #[.int .u16 48, .string sp, .string nm, .slice na nl nc, .slice ka kl kc]] w fun e w' => e = .returned (.bool (hasB 48 kl nl)) ∧ Below w.heap.size w w' := by
  unfold maxLen at hk hn
  go_enter Tryd.func94, Tryd.ntmps94
  go_wp2_with fail
  go_quiet (fail)
  go_wp2_with fail
  go_ret
  exact ⟨by simp [hasB, eq_i], below_drewN (below_one _ _) _⟩

set_option maxHeartbeats 1000000 in
theorem has_tuple (w : World) (sp nm : ByteArray) (na : Option Addr) (nl nc : Nat) (ka : Option Addr) (kl kc : Nat) (hk : kl ≤ maxLen) (hn : nl ≤ maxLen) :
    Calls Tryd.prog 94 #[.agg #[.int .u16 49, .string sp, .string nm, .slice na nl nc, .slice ka kl kc]] w fun e w' => e = .returned (.bool (hasB 49 kl nl)) ∧ Below w.heap.size w w' := by
  unfold maxLen at hk hn
  go_enter Tryd.func94, Tryd.ntmps94
  go_wp2_with fail
  go_quiet (fail)
  go_wp2_with fail
  go_ret
  exact ⟨by simp [hasB, eq_0], below_drewN (below_one _ _) _⟩

theorem hasB_else {id : Int} {kl nl : Nat} (h0 : id ≠ 0) (h1 : id ≠ 32) (h2 : id ≠ 33) (h3 : id ≠ 34) (h4 : id ≠ 48) (h5 : id ≠ 49) : hasB id kl nl = (plainB id && decide (kl = 0) && decide (nl = 0)) := by
  rw [hasB, if_neg h0, if_neg (by omega), if_neg h2, if_neg h4, if_neg h5]

set_option maxHeartbeats 1000000 in
theorem has_else (w : World) (sp nm : ByteArray) (na : Option Addr) (nl nc : Nat) (ka : Option Addr) (kl kc : Nat) (hk : kl ≤ maxLen) (hn : nl ≤ maxLen) (hT : Tab w) (id : Int) (hi : 0 ≤ id ∧ id < 65536) (h0 : id ≠ 0) (h1 : id ≠ 32) (h2 : id ≠ 33) (h3 : id ≠ 34) (h4 : id ≠ 48) (h5 : id ≠ 49) :
    Calls Tryd.prog 94 #[.agg #[.int .u16 id, .string sp, .string nm, .slice na nl nc, .slice ka kl kc]] w fun e w' => e = .returned (.bool (hasB id kl nl)) ∧ Below w.heap.size w w' := by
  unfold maxLen at hk hn
  have HH : Hid _ := hasB_else (kl := kl) (nl := nl) h0 h1 h2 h3 h4 h5
  have t0 : (id == 0) = false := by simpa using h0
  have t1 : (id == 32) = false := by simpa using h1
  have t2 : (id == 33) = false := by simpa using h2
  have t3 : (id == 34) = false := by simpa using h3
  have t4 : (id == 48) = false := by simpa using h4
  have t5 : (id == 49) = false := by simpa using h5
  clear h0 h1 h2 h3 h4 h5
  obtain ⟨p, hp⟩ : ∃ p, p = plainB id := ⟨_, rfl⟩
  have HP : Hid _ := hp
  have HT : Hid (Tab w) := hT
  clear hp hT
  go_enter Tryd.func94, Tryd.ntmps94
  go_wp2_with fail
  go_quiet (fail)
  cases p with
  | false =>
    go_wp2_with (go_at_call 93; refine (isPlain_any _ (HT.out.old (below_drewN (below_one _ _) _)) id hi.1 hi.2 HP.out).mono ?_; rintro e w1 ⟨rfl, rfl⟩)
    go_ret
    exact ⟨by rw [HH.out, ← HP.out]; rfl, below_drewN (below_one _ _) _⟩
  | true =>
    by_cases h : kl = 0
    · subst h
      go_wp2_with (go_at_call 93; refine (isPlain_any _ (HT.out.old (below_drewN (below_one _ _) _)) id hi.1 hi.2 HP.out).mono ?_; rintro e w1 ⟨rfl, rfl⟩)
      go_ret
      exact ⟨by rw [HH.out, ← HP.out]; simp [eq_0], below_drewN (below_one _ _) _⟩
    · have t : ((kl : Int) == 0) = false := by rw [eq_0]; exact decide_eq_false h
      go_wp2_with (go_at_call 93; refine (isPlain_any _ (HT.out.old (below_drewN (below_one _ _) _)) id hi.1 hi.2 HP.out).mono ?_; rintro e w1 ⟨rfl, rfl⟩)
      go_ret
      exact ⟨by rw [HH.out, ← HP.out]; simp [h], below_drewN (below_one _ _) _⟩

theorem has_any {n : Nat} {F : Nat → Prop} {w : World} {t : Ty} {na : Option Addr} {nl nc : Nat} {ka : Option Addr} {kl kc : Nat} (h : TyAt n F w t na nl nc ka kl kc) (hT : Tab w) {d : Bool} (hd : d = hasB t.id t.kids.length t.names.length) :
    Calls Tryd.prog 94 #[.agg #[.int .u16 t.id, .string t.space, .string t.name, .slice na nl nc, .slice ka kl kc]] w fun e w' => e = .returned (.bool d) ∧ Below w.heap.size w w' := by
  rw [h.kl_eq, h.nl_eq] at hd
  subst hd
  have hk := Nat.le_trans h.kl_le.1 h.kl_le.2
  have hn := Nat.le_trans h.nl_le.1 h.nl_le.2
  have hi := h.idr
  generalize t.id = id at *
  by_cases h0 : id = 0
  · subst h0; exact has_custom w _ _ _ _ _ _ _ _ hk hn
  by_cases h1 : id = 32
  · subst h1; exact has_list w _ _ _ _ _ _ _ _ hk hn
  by_cases h2 : id = 33
  · subst h2; exact has_map w _ _ _ _ _ _ _ _ hk hn
  by_cases h3 : id = 34
  · subst h3; exact has_set w _ _ _ _ _ _ _ _ hk hn
  by_cases h4 : id = 48
  · subst h4; exact has_udt w _ _ _ _ _ _ _ _ hk hn
  by_cases h5 : id = 49
  · subst h5; exact has_tuple w _ _ _ _ _ _ _ _ hk hn
  exact has_else w _ _ _ _ _ _ _ _ hk hn hT id hi h0 h1 h2 h3 h4 h5

/-- May a type be, with all that is within it? -/
def mayB : Nat → Ty → Bool
  | 0, _ => false
  | n + 1, t => hasB t.id t.kids.length t.names.length && t.kids.all (mayB n)

theorem all_step {p : Ty → Bool} {xs : List Ty} {k : Nat} {x : Ty} {r : Bool} (h : (xs.drop k).all p = r) (hx : xs[k]? = some x) (hp : p x = true) : (xs.drop (k + 1)).all p = r := by
  have hk := (List.getElem?_eq_some_iff.1 hx).1
  rw [List.drop_eq_getElem_cons hk, List.all_cons, (List.getElem?_eq_some_iff.1 hx).2, hp, Bool.true_and] at h
  exact h
theorem all_stop {p : Ty → Bool} {xs : List Ty} {k : Nat} {x : Ty} {r : Bool} (h : (xs.drop k).all p = r) (hx : xs[k]? = some x) (hp : p x = false) : r = false := by
  have hk := (List.getElem?_eq_some_iff.1 hx).1
  rw [List.drop_eq_getElem_cons hk, List.all_cons, (List.getElem?_eq_some_iff.1 hx).2, hp, Bool.false_and] at h
  exact h.symm
theorem all_end {p : Ty → Bool} {xs : List Ty} {k : Nat} {r : Bool} (h : (xs.drop k).all p = r) (hk : xs.length ≤ k) : r = true := by
  rw [List.drop_eq_nil_of_le hk, List.all_nil] at h
  exact h.symm

theorem TyAt.none {F : Nat → Prop} {w : World} {t : Ty} {na : Option Addr} {nl nc : Nat} {ka : Option Addr} {kl kc : Nat} (h : TyAt 0 F w t na nl nc ka kl kc) : kl = 0 := by
  obtain ⟨_, _, _, _, h1, _, _, _, h5⟩ := h
  apply Classical.byContradiction
  intro hlt
  obtain ⟨b, off, ha, hb, hFb, hc⟩ := h5 (by omega)
  obtain ⟨c, _, hf⟩ := hc 0 _ (List.getElem?_eq_getElem (by omega))
  exact hf
end Go.Proofs.YtnapeecmlkkolaaDoor

namespace Go.Proofs.YtnapeecmlkkolaaDoor
open Go.RowKit
set_option linter.unusedVariables false
set_option linter.unusedSimpArgs false

/-- The bytes, and the error. -/
def textB (s : ByteArray) : List Int × Int := if s.size ≤ 65535 then (putL s.size 2 ++ sNums s, 0) else ([], 12)
def countB (n : Nat) : List Int × Int := if n ≤ 65535 then (putL n 2, 0) else ([], 12)
def cat (a b : List Int × Int) : List Int × Int := if a.2 = 0 then if b.2 = 0 then (a.1 ++ b.1, 0) else ([], b.2) else ([], a.2)
def goB {α : Type} (f : α → List Int × Int) : List α → List Int × Int
  | [] => ([], 0)
  | x :: r => cat (f x) (goB f r)

theorem textB_range (s : ByteArray) : ∀ j : Nat, 0 ≤ (textB s).1[j]?.getD 0 ∧ (textB s).1[j]?.getD 0 ≤ 255 := by
  unfold textB
  split
  · exact range_append (putL_range _ _) (sNums_range s)
  · intro j; simp

theorem textB_len (s : ByteArray) : (textB s).1.length ≤ 65537 := by
  unfold textB
  split
  · rw [List.length_append, putL_length, sNums_length]; omega
  · simp

theorem isB_own {w : World} {base : Nat} {v : Value} {n : Nat} {X : List Int} (h : OwnB w base v n X) (hr : ∀ j : Nat, 0 ≤ X[j]?.getD 0 ∧ X[j]?.getD 0 ≤ 255) : ∃ a cp, v = .slice a n cp ∧ IsB w a n cp X := by
  have hl := h.len
  subst hl
  rcases h.2 with ⟨rfl, h0⟩ | ⟨g, cap, cur, rfl, hg, hh, hnc, hm, hs, htake⟩
  · obtain rfl : X = [] := List.eq_nil_of_length_eq_zero h0
    exact ⟨none, 0, rfl, isB_nil _⟩
  · refine ⟨_, cap, rfl, rfl, hnc, hm, (fun e => by cases e), fun hp => ?_⟩
    obtain ⟨g', cap', hv, _, _, hR⟩ := h.row hp hr
    cases hv
    exact ⟨g, 0, rfl, hR⟩

set_option maxHeartbeats 400000 in
theorem text_long (s : ByteArray) (w : World) (hs : 65535 < s.size) (hm : s.size ≤ maxLen) :
    Calls Tryd.prog 82 #[.string s] w fun e w' => e = .returned (.tuple #[.slice none 0 0, .int .i64 12]) ∧ w' = w := by
  unfold maxLen at hm
  go_enter Tryd.func82, Tryd.ntmps82
  go_wp2_with fail
  go_ret2
  exact ⟨rfl, rfl⟩

theorem text_any (s : ByteArray) (w : World) (hm : s.size ≤ maxLen) {B : List Int × Int} (hB : B = textB s) :
    Calls Tryd.prog 82 #[.string s] w fun e w' => ∃ a cp, e = .returned (.tuple #[.slice a B.1.length cp, .int .i64 B.2]) ∧ Hid (IsB w' a B.1.length cp B.1) ∧ Below w.heap.size w w' := by
  subst hB
  by_cases hs : s.size ≤ 65535
  · refine (text_yes s w hs).mono ?_
    rintro e w' ⟨v, rfl, ho, hB⟩
    have hl := ho.len
    rw [← hl] at ho
    obtain ⟨a, cp, rfl, hp⟩ := isB_own ho (range_append (putL_range _ _) (sNums_range s))
    simp only [textB, if_pos hs]
    exact ⟨a, cp, rfl, hp, hB⟩
  · refine (text_long s w (by omega) hm).mono ?_
    rintro e w' ⟨rfl, rfl⟩
    simp only [textB, if_neg hs]
    exact ⟨none, 0, rfl, isB_nil _, Below.refl _ _⟩

theorem OwnB.grown {w W : World} {base : Nat} {v : Value} {n : Nat} {X : List Int} (h : OwnB w base v n X) (hB : Below w.heap.size w W) : OwnB W base v n X := by
  refine ⟨h.1, ?_⟩
  rcases h.2 with h2 | ⟨g, cap, cur, hv, hg, hh, r⟩
  · exact .inl h2
  · exact .inr ⟨g, cap, cur, hv, hg, by rw [hB.block g (Array.getElem?_eq_some_iff.1 hh).1]; exact hh, r⟩

/-- A slice that owns just the bytes X. -/
def Acc (w : World) (base : Nat) (v : Value) (X : List Int) : Prop := OwnB w base v X.length X

theorem Acc.grown {w W : World} {base : Nat} {v : Value} {X : List Int} (h : Acc w base v X) (hB : Below w.heap.size w W) : Acc W base v X := OwnB.grown h hB
theorem Acc.lt {w : World} {base : Nat} {v : Value} {X : List Int} (h : Acc w base v X) : ∀ k, v.ownBlock = some k → base ≤ k ∧ k < w.heap.size := World.ownsRow.lt h
theorem acc_nil (w : World) (base : Nat) : Acc w base (.slice none 0 0) [] := World.ownsRow_nil _ _ _ _

theorem below_grownBy {w W : World} (h : Below w.heap.size w W) (row : Option Nat) : w.grownBy W row := ⟨h.os, h.tape, h.output, h.size, fun k hk _ => h.block k hk⟩

/-- A slice is where it was, or in a new block. -/
def Moved (w : World) (v v' : Value) : Prop := v'.ownBlock = v.ownBlock ∨ ∃ g, v'.ownBlock = some g ∧ w.heap.size ≤ g

theorem Moved.refl (w : World) (v : Value) : Moved w v v := .inl rfl
theorem Moved.trans {w w1 : World} {v v1 v2 : Value} (h : Moved w v v1) (k : Moved w1 v1 v2) (hs : w.heap.size ≤ w1.heap.size) : Moved w v v2 := by
  rcases k with k | ⟨g, hg, hl⟩
  · unfold Moved; rw [k]; exact h
  · exact .inr ⟨g, hg, Nat.le_trans hs hl⟩

theorem grownBy_then {w w1 w2 : World} {v v1 : Value} (h : w.grownBy w1 v.ownBlock) (hm : Moved w v v1) (k : w1.grownBy w2 v1.ownBlock) : w.grownBy w2 v.ownBlock := by
  refine h.andThen k fun j hj => ?_
  rcases hm with hm | ⟨g, hg, hl⟩
  · exact .inr (by rw [← hm, hj])
  · rw [hg] at hj; cases hj; exact .inl hl

/-- B is put behind acc. -/
structure On (base : Nat) (w : World) (v : Value) (acc : List Int) (B : List Int × Int) (w' : World) (v' : Value) : Prop where
  grown : w.grownBy w' v.ownBlock
  ok : B.2 = 0 → Acc w' base v' (acc ++ B.1) ∧ Moved w v v'
  no : B.2 ≠ 0 → v' = .slice none 0 0

theorem On.cell {base : Nat} {w : World} {v : Value} {acc : List Int} {B : List Int × Int} {w' : World} {v' : Value} (h : On base w v acc B w' v') {a : Addr} (hb : a.block < w.heap.size) (hv : v.ownBlock ≠ some a.block) : w'.cell? a = w.cell? a :=
  h.grown.cell_far a hb (fun e => hv e.symm)

theorem append_on_run {w : World} {base : Nat} {v : Value} {X : List Int} (hown : Acc w base v X) {xa : Option Addr} {len cap : Nat} {zs : List Int} (hB : IsB w xa len cap zs) (hbd : X.length + len ≤ 140737488355328) (hbase : base ≤ w.heap.size) (ty : TypeId) :
    ∃ v' w', (Builtin.append_ #[22, 22] ty #[v, .slice xa len cap]).run Tryd.prog w = .ok v' w' ∧ Acc w' base v' (X ++ zs) ∧ w.grownBy w' v.ownBlock ∧ Moved w v v' := by
  obtain ⟨i0, hi, hz0, hz1, hz2⟩ := info_parts Tryd.info5
  cases xa with
  | none =>
    obtain ⟨h1, h2, h3, h4, h5⟩ := hB
    obtain ⟨rfl, rfl⟩ := h4 rfl
    obtain rfl : zs = [] := List.eq_nil_of_length_eq_zero h1
    refine ⟨v, w, run_append_owned_none (P := Tryd.prog) (w := w) base 22 ty 5 i0 1 Tryd.underlying22 hi v _ _ hown, ?_, World.grownBy.refl _ _, .inl rfl⟩
    rw [List.append_nil]; exact hown
  | some x =>
    have hl : (zs.map (Value.int .u8)).length = len * 1 := by rw [List.length_map, hB.1, Nat.mul_one]
    obtain ⟨v', w', hr, h2, h3, h4, h5⟩ := run_append_own_at (P := Tryd.prog) w base 22 ty 5 i0 (.int .u8 0) 1 1 Tryd.underlying22 hi hz0 hz1 hz2 rfl (by decide) v _ _ hown x len cap _ hl hB.news (bytes_one zs) (by unfold maxLen; omega) (by omega) hbase
    refine ⟨v', w', hr, ?_, h3, ?_⟩
    · have := OwnB.join h2 rfl
      show OwnB _ _ _ _ _
      rw [List.length_append, hB.1]; exact this
    · rcases h5 with h5 | h5
      · exact .inl h5
      · exact .inr ⟨_, h5, Nat.le_refl _⟩

theorem wpList_append_on {ops : Array Oper} {rest : List Oper} {o : Oper} {a : Act} {w : World} {Q : Exit → Act → World → Prop} (hgd : o.guard = none) (s x : Operand)
    (ho : o.op = .call { callee := .builtin .append, args := #[s, x], argTypes := #[22, 22] })
    {base : Nat} {v : Value} {X : List Int} (hs : a.eval s = v) (hown : Acc w base v X) {xa : Option Addr} {len cap : Nat} {zs : List Int} (hx : a.eval x = .slice xa len cap) (hB : IsB w xa len cap zs) (hbd : X.length + len ≤ 140737488355328) (hbase : base ≤ w.heap.size)
    (h : ∀ v' w', Hid (Acc w' base v' (X ++ zs)) → w.grownBy w' v.ownBlock → Moved w v v' → wpList Tryd.prog ops Q rest (a.put o.dst v') w') : wpList Tryd.prog ops Q (o :: rest) a w := by
  refine wpList_plain hgd fun K hK => ?_
  obtain ⟨v', w', hr, h2, h3, h4⟩ := append_on_run hown hB hbd hbase o.type
  unfold Oper.wp
  simp [execOp, ho, resolve, invoke, builtin, hs, hx, hr, Result.andThen]
  exact hK _ _ (h v' w' h2 h3 h4)

set_option maxHeartbeats 400000 in
theorem putText_any {base : Nat} {w : World} {v : Value} {acc : List Int} (h : Acc w base v acc) (hb : base ≤ w.heap.size) (hbd : acc.length + 65537 ≤ 140737488355328) (s : ByteArray) (hm : s.size ≤ maxLen) {B : List Int × Int} (hB : B = textB s) :
    Calls Tryd.prog 95 #[v, .string s] w fun e w' => ∃ v', e = .returned (.tuple #[v', .int .i64 B.2]) ∧ On base w v acc B w' v' := by
  have H : Hid (Acc w base v acc) := h
  have HB : Hid _ := hB
  have HM : Hid _ := hm
  have HBD : Hid (acc.length + B.1.length ≤ 140737488355328) := by show _ ≤ _; have := textB_len s; rw [hB]; omega
  clear h hB hm hbd
  go_enter Tryd.func95, Tryd.ntmps95
  go_wp2_with fail
  refine (text_any s _ HM.out HB.out).mono ?_
  rintro e w1 ⟨a, cp, rfl, HP, hB⟩
  by_cases he : B.2 = 0
  · have hs1 := hB.size
    rw [he]
    go_wp2_with (at_builtin; refine wpList_append_on rfl (.tmp 16) (.tmp 17) rfl rfl (H.out.grown hB) rfl HP.out HBD.out (by omega) ?_)
    intro v2 w2 HO2 hg2 hm2
    go_wp2_with fail
    go_ret2
    refine ⟨v2, by rw [he]; rfl, (below_grownBy hB _).trans hg2, fun _ => ⟨HO2.out, ?_⟩, fun h => absurd he h⟩
    exact (Moved.refl w v).trans hm2 hs1
  · have t : (B.2 == 0) = false := by simpa using he
    have HE : Hid _ := he
    clear he
    go_wp2_with fail
    go_ret2
    exact ⟨_, rfl, below_grownBy hB _, fun h => absurd h HE.out, fun _ => rfl⟩

theorem countB_len (n : Nat) : (countB n).1.length ≤ 2 := by
  unfold countB
  split
  · rw [putL_length]; omega
  · simp

set_option maxHeartbeats 400000 in
theorem putCount_any {base : Nat} {w : World} {v : Value} {acc : List Int} (h : Acc w base v acc) (hb : base ≤ w.heap.size) (hbd : acc.length + 2 ≤ 140737488355328) (n : Nat) (hm : n ≤ maxLen) {B : List Int × Int} (hB : B = countB n) :
    Calls Tryd.prog 99 #[v, .int .i64 n] w fun e w' => ∃ v', e = .returned (.tuple #[v', .int .i64 B.2]) ∧ On base w v acc B w' v' := by
  unfold maxLen at hm
  have H : Hid (Acc w base v acc) := h
  by_cases hn : n ≤ 65535
  · have hd : decide ((65535 : Int) < n) = false := by simp; omega
    rw [countB, if_pos hn] at hB
    have HB : Hid _ := hB
    clear h hB
    go_enter Tryd.func99, Tryd.ntmps99
    go_wp2_with fail
    refine (put_own n 2 _ (by omega) (by omega) (by omega) _ rfl).mono ?_
    rintro e w1 ⟨v1, rfl, ho, hB⟩
    have hl := ho.len
    obtain ⟨a, cp, rfl, hp⟩ := isB_own ho (putL_range _ _)
    have HP : Hid (IsB _ _ _ _ _) := hp
    have hs1 := hB.size
    clear ho hp hl
    go_wp2_with (at_builtin; refine wpList_append_on rfl (.tmp 8) (.tmp 11) rfl rfl (H.out.grown hB) rfl HP.out hbd (by omega) ?_)
    intro v2 w2 HO2 hg2 hm2
    go_wp2_with fail
    go_ret2
    refine ⟨v2, by rw [HB.out]; rfl, (below_grownBy hB _).trans hg2, fun _ => ⟨by rw [HB.out]; exact HO2.out, ?_⟩, fun h => absurd (by rw [HB.out]) h⟩
    exact (Moved.refl w v).trans hm2 hs1
  · rw [countB, if_neg hn] at hB
    have HB : Hid _ := hB
    have hn2 : (65535 : Int) < n := by omega
    clear h hB hn
    go_enter Tryd.func99, Tryd.ntmps99
    go_wp2_with fail
    go_ret2
    exact ⟨_, by rw [HB.out]; rfl, World.grownBy.refl _ _, fun h => absurd h (by rw [HB.out]; decide), fun _ => rfl⟩
end Go.Proofs.YtnapeecmlkkolaaDoor

namespace Go.Proofs.YtnapeecmlkkolaaDoor
open Go.RowKit
set_option linter.unusedVariables false
set_option linter.unusedSimpArgs false

def fieldB (f : Ty → List Int × Int) (p : ByteArray × Ty) : List Int × Int := cat (textB p.1) (f p.2)

/-- A type's bytes, and the error. -/
def tyB : Nat → Ty → List Int × Int
  | 0, _ => ([], 1)
  | n + 1, t => if hasB t.id t.kids.length t.names.length = false then ([], 1) else
    cat (putL t.id 2, 0) (if t.id = 0 then textB t.name else if t.id = 48 then cat (textB t.space) (cat (textB t.name) (cat (countB t.kids.length) (goB (fieldB (tyB n)) (t.names.zip t.kids))))
      else if t.id = 49 then cat (countB t.kids.length) (goB (tyB n) t.kids) else goB (tyB n) t.kids)

/-- How many bytes that may take at most. -/
def wgt : Nat → Ty → Nat
  | 0, _ => 0
  | n + 1, t => 131078 + 65537 * t.names.length + (t.kids.map (wgt n)).sum

theorem cat_ok {a b : List Int × Int} (h : a.2 = 0) (k : b.2 = 0) : cat a b = (a.1 ++ b.1, 0) := by rw [cat, if_pos h, if_pos k]
theorem cat_no {a b : List Int × Int} (h : a.2 ≠ 0) : cat a b = ([], a.2) := by rw [cat, if_neg h]
theorem cat_no2 {a b : List Int × Int} (h : a.2 = 0) (k : b.2 ≠ 0) : cat a b = ([], b.2) := by rw [cat, if_pos h, if_neg k]
theorem cat_err {a b : List Int × Int} (h : a.2 = 0) : (cat a b).2 = b.2 := by
  rw [cat, if_pos h]; split
  · rename_i k; exact k.symm
  · rfl
theorem cat_assoc {a b c : List Int × Int} (h : a.2 = 0) (k : b.2 = 0) : cat (a.1 ++ b.1, 0) c = cat a (cat b c) := by
  by_cases hc : c.2 = 0
  · rw [cat_ok (by rfl) hc, cat_ok k hc, cat_ok h (by rfl), List.append_assoc]
  · rw [cat_no2 (by rfl) hc, cat_no2 k hc, cat_no2 h (by exact hc)]
theorem cat_nil (a : List Int × Int) : cat a ([], 0) = if a.2 = 0 then a else ([], a.2) := by
  obtain ⟨x, e⟩ := a
  unfold cat
  split
  · rename_i h
    have h' : e = 0 := h
    subst h'
    rw [if_pos (by rfl)]; simp
  · rfl
theorem cat_len (a b : List Int × Int) : (cat a b).1.length ≤ a.1.length + b.1.length := by
  unfold cat
  split
  · split
    · simp
    · simp
  · simp

theorem cat_pure {a b : List Int × Int} : (cat a b).2 ≠ 0 → (cat a b).1 = [] := by
  unfold cat
  split
  · split
    · intro h; exact absurd rfl h
    · intro _; rfl
  · intro _; rfl
theorem goB_pure {α : Type} {f : α → List Int × Int} (xs : List α) : (goB f xs).2 ≠ 0 → (goB f xs).1 = [] := by
  cases xs with
  | nil => intro h; exact absurd rfl h
  | cons x r => rw [goB]; exact cat_pure
theorem nil_cat {a : List Int × Int} (h : a.2 ≠ 0 → a.1 = []) : cat ([], 0) a = a := by
  obtain ⟨x, e⟩ := a
  by_cases he : e = 0
  · subst he; rw [cat_ok (by rfl) (by rfl)]; rfl
  · rw [cat_no2 (by rfl) (by exact he)]
    have := h he
    simp at this
    rw [this]

theorem goB_len {α : Type} {f : α → List Int × Int} {g : α → Nat} (h : ∀ x, (f x).1.length ≤ g x) : ∀ xs : List α, (goB f xs).1.length ≤ (xs.map g).sum
  | [] => by simp [goB]
  | x :: r => by
    rw [goB, List.map_cons, List.sum_cons]
    have h1 := cat_len (f x) (goB f r)
    have h2 := goB_len h r
    have h3 := h x
    omega

theorem zip_sum (f : Ty → Nat) : ∀ (ns : List ByteArray) (ks : List Ty), ((ns.zip ks).map fun p => 65537 + f p.2).sum ≤ 65537 * ns.length + (ks.map f).sum
  | [], _ => by simp
  | _ :: _, [] => by simp
  | n :: ns, k :: ks => by
    have := zip_sum f ns ks
    simp only [List.zip_cons_cons, List.map_cons, List.sum_cons, List.length_cons, Nat.mul_succ]
    omega

theorem tyB_len : ∀ (n : Nat) (t : Ty), (tyB n t).1.length ≤ wgt n t
  | 0, t => by simp [tyB]
  | n + 1, t => by
    rw [tyB, wgt]
    split
    · simp
    · have ih := tyB_len n
      have h1 := cat_len (putL t.id 2, 0) (if t.id = 0 then textB t.name else if t.id = 48 then cat (textB t.space) (cat (textB t.name) (cat (countB t.kids.length) (goB (fieldB (tyB n)) (t.names.zip t.kids))))
        else if t.id = 49 then cat (countB t.kids.length) (goB (tyB n) t.kids) else goB (tyB n) t.kids)
      have h2 : (putL t.id 2, (0 : Int)).1.length = 2 := putL_length _ _
      have h3 := textB_len t.name
      have h4 := textB_len t.space
      have h5 := countB_len t.kids.length
      have h6 := goB_len ih t.kids
      have h7 : (goB (fieldB (tyB n)) (t.names.zip t.kids)).1.length ≤ 65537 * t.names.length + (t.kids.map (wgt n)).sum := by
        refine Nat.le_trans (goB_len (g := fun p => 65537 + wgt n p.2) (fun p => ?_) _) (zip_sum _ _ _)
        have h8 := cat_len (textB p.1) (tyB n p.2)
        have h9 := textB_len p.1
        have h10 := ih p.2
        show (cat _ _).1.length ≤ _
        omega
      refine Nat.le_trans h1 ?_
      split
      · omega
      · split
        · have h8 := cat_len (textB t.space) (cat (textB t.name) (cat (countB t.kids.length) (goB (fieldB (tyB n)) (t.names.zip t.kids))))
          have h9 := cat_len (textB t.name) (cat (countB t.kids.length) (goB (fieldB (tyB n)) (t.names.zip t.kids)))
          have h10 := cat_len (countB t.kids.length) (goB (fieldB (tyB n)) (t.names.zip t.kids))
          omega
        · split
          · have h8 := cat_len (countB t.kids.length) (goB (tyB n) t.kids)
            omega
          · omega

/-- The contract of putType, of types so deep. -/
def PutsTy (n : Nat) : Prop := ∀ (base : Nat) (w : World) (v : Value) (acc : List Int) (t : Ty) (na : Option Addr) (nl nc : Nat) (ka : Option Addr) (kl kc : Nat), Acc w base v acc → 0 < base → base ≤ w.heap.size → TyAt n (fun k => k < base) w t na nl nc ka kl kc → Tab w →
  acc.length + wgt (n + 1) t ≤ 140737488355328 → ∀ B, B = tyB (n + 1) t → Calls Tryd.prog 89 #[v, .agg #[.int .u16 t.id, .string t.space, .string t.name, .slice na nl nc, .slice ka kl kc]] w fun e w' => ∃ v', e = .returned (.tuple #[v', .int .i64 B.2]) ∧ Hid (On base w v acc B w' v')

theorem TyAt.pos {n : Nat} {F : Nat → Prop} {w : World} {t : Ty} {na : Option Addr} {nl nc : Nat} {ka : Option Addr} {kl kc : Nat} (h : TyAt n F w t na nl nc ka kl kc) (hk : 0 < kl) : ∃ m, n = m + 1 := by
  cases n with
  | zero => have := h.none; omega
  | succ n => exact ⟨n, rfl⟩

theorem TyAt.name_at {n : Nat} {F : Nat → Prop} {w : World} {t : Ty} {na : Option Addr} {nl nc : Nat} {ka : Option Addr} {kl kc : Nat} (h : TyAt n F w t na nl nc ka kl kc) {k : Nat} (hk : k < nl) :
    ∃ s b off, t.names[k]? = some s ∧ na = some ⟨b, off, .none⟩ ∧ b < w.heap.size ∧ w.cell? ⟨b, off + k, .none⟩ = some (.string s) ∧ s.size ≤ maxLen := by
  obtain ⟨hid, hs1, hs2, ⟨h1, h2, h3, h4, h5⟩, hkk⟩ := h
  obtain ⟨b, off, ha, hb, hFb, hc⟩ := h5 (by omega)
  have hx : t.names[k]? = some t.names[k] := List.getElem?_eq_getElem (by omega)
  obtain ⟨c, hcell, hv, hm⟩ := hc k _ hx
  refine ⟨_, b, off, hx, ha, hb, ?_, hm⟩
  rw [← hv]; have := hcell 0 (by omega); simpa using this

/-- What lies below base is as it was. -/
theorem TyAt.on {n base : Nat} {w W : World} {row : Option Nat} {t : Ty} {na : Option Addr} {nl nc : Nat} {ka : Option Addr} {kl kc : Nat} (h : TyAt n (fun k => k < base) w t na nl nc ka kl kc) (hg : w.grownBy W row) (hr : ∀ k, row = some k → base ≤ k) : TyAt n (fun k => k < base) W t na nl nc ka kl kc :=
  h.mono (fun k hk hF => ⟨hF, hg.block k hk (fun e => by have := hr k e.symm; omega)⟩) hg.size

theorem Tab.on {base : Nat} {w W : World} {row : Option Nat} (h : Tab w) (hg : w.grownBy W row) (hr : ∀ k, row = some k → base ≤ k) (hb : 0 < base) : Tab W :=
  ⟨fun i hi => (hg.cell_far ⟨0, i, none⟩ h.lt (fun e => by have : base ≤ 0 := hr 0 e.symm; omega)).trans (h.cell i hi), Nat.lt_of_lt_of_le h.lt hg.size⟩

theorem goB_drop {α : Type} {f : α → List Int × Int} {xs : List α} {k : Nat} {x : α} (hx : xs[k]? = some x) : goB f (xs.drop k) = cat (f x) (goB f (xs.drop (k + 1))) := by
  have hk := (List.getElem?_eq_some_iff.1 hx).1
  rw [List.drop_eq_getElem_cons hk, (List.getElem?_eq_some_iff.1 hx).2, goB]

theorem sum_drop {xs : List Ty} {f : Ty → Nat} {k : Nat} {x : Ty} (hx : xs[k]? = some x) : ((xs.drop k).map f).sum = f x + ((xs.drop (k + 1)).map f).sum := by
  have hk := (List.getElem?_eq_some_iff.1 hx).1
  rw [List.drop_eq_getElem_cons hk, (List.getElem?_eq_some_iff.1 hx).2, List.map_cons, List.sum_cons]

/-- One step of a row of parts. -/
theorem go_next {done : List Int} {b g B : List Int × Int} (h : B = cat (done, 0) (cat b g)) (hb : b.2 = 0) : B = cat (done ++ b.1, 0) g := by rw [h, ← cat_assoc (a := (done, 0)) (by rfl) hb]
theorem go_fail {done : List Int} {b g B : List Int × Int} (h : B = cat (done, 0) (cat b g)) (hb : b.2 ≠ 0) : B = ([], b.2) := by rw [h, cat_no hb, cat_no2 (by rfl) (by exact hb)]

set_option maxHeartbeats 1000000 in
theorem putKids_any (n : Nat) (ih : ∀ m, n = m + 1 → PutsTy m) {base : Nat} {w : World} {v : Value} {acc : List Int} {t : Ty} {na : Option Addr} {nl nc : Nat} {ka : Option Addr} {kl kc : Nat} (ha : Acc w base v acc) (hb0 : 0 < base) (hb : base ≤ w.heap.size)
    (h : TyAt n (fun k => k < base) w t na nl nc ka kl kc) (hT : Tab w) (hbd : acc.length + (t.kids.map (wgt n)).sum ≤ 140737488355328) {B : List Int × Int} (hB : B = goB (tyB n) t.kids) :
    Calls Tryd.prog 98 #[v, .slice ka kl kc] w fun e w' => ∃ v', e = .returned (.tuple #[v', .int .i64 B.2]) ∧ Hid (On base w v acc B w' v') := by
  have hkl := h.kl_le
  unfold maxLen at hkl
  have HL : Hid (t.kids.length = kl) := h.kl_eq
  have HA : Hid (Acc w base v acc) := ha
  have H : Hid (TyAt n (fun k => k < base) w t na nl nc ka kl kc) := h
  have HT : Hid (Tab w) := hT
  have IH : Hid _ := ih
  have HB : Hid (B = cat ([], 0) (goB (tyB n) (t.kids.drop 0))) := by
    show _ = _
    rw [List.drop_zero, ← hB]
    exact (nil_cat (hB ▸ goB_pure t.kids)).symm
  have HBD : Hid (acc.length + [].length (α := Int) + ((t.kids.drop 0).map (wgt n)).sum ≤ 140737488355328) := hbd
  clear ha h hT ih hB hbd
  go_enter Tryd.func98, Tryd.ntmps98
  go_wp2_with fail
  go_loopw [0, 11] (fun u i wr => ∃ (k : Nat) (done : List Int), k ≤ kl ∧ i = .int .i64 k ∧ Hid (Acc wr base u (acc ++ done)) ∧ Hid (B = cat (done, 0) (goB (tyB n) (t.kids.drop k))) ∧ Hid (acc.length + done.length + ((t.kids.drop k).map (wgt n)).sum ≤ 140737488355328) ∧
      Hid (w.grownBy wr v.ownBlock) ∧ Hid (Moved w v u)) (fun _ i _ => kl - (intOf i).toNat)
  case atStart => exact ⟨0, [], by omega, rfl, by rw [List.append_nil]; exact HA, HB, HBD, World.grownBy.refl _ _, Moved.refl _ _⟩
  case round =>
    obtain ⟨k, done, hk, rfl, HAk, HBk, HBDk, HG, HMv⟩ := hrel
    have HLT : Hid (∀ j, v.ownBlock = some j → base ≤ j) := fun j hj => (HA.out.lt j hj).1
    by_cases hlt : k < kl
    · obtain ⟨m, hm⟩ := H.out.pos (by omega)
      obtain ⟨x, b, off, xa, xl, xc, ya, yl, yc, hx, rfl, hbs, c0, c1, c2, c3, c4, hin⟩ := (hm ▸ (H.out.on HG.out HLT.out) : TyAt (m + 1) (fun k => k < base) wr t na nl nc ka kl kc).kid hlt
      obtain ⟨Bx, hBx⟩ : ∃ Bx, Bx = tyB n x := ⟨_, rfl⟩
      have HX : Hid _ := hx
      have HIN : Hid (TyAt m (fun k => k < base) wr x xa xl xc ya yl yc) := hin
      have HBX : Hid _ := hBx
      have HW : Hid ((acc ++ done).length + wgt (m + 1) x ≤ 140737488355328) := by
        show _ ≤ _
        have := HBDk.out
        rw [sum_drop hx, hm] at this
        rw [List.length_append]; omega
      have HBX2 : Hid (Bx = tyB (m + 1) x) := by show _ = _; rw [hBx, hm]
      have HTk : Hid (Tab wr) := HT.out.on HG.out HLT.out hb0
      have hsz := HG.out.size
      have HM : Hid _ := hm
      clear hx hin hBx hm
      go_wp2_with fail
      refine (IH.out m HM.out base _ u0 (acc ++ done) x xa xl xc ya yl yc (HAk.out.grown (below_one _ _)) hb0 (by simp; omega) (HIN.out.old (below_one _ _)) (HTk.out.old (below_one _ _)) HW.out Bx HBX2.out).mono ?_
      rintro e w2 ⟨v2, rfl, HO⟩
      have HG2 : Hid (w.grownBy w2 v.ownBlock) := grownBy_then HG.out HMv.out (((below_grownBy (below_one wr _) _)).trans HO.out.grown)
      by_cases he : Bx.2 = 0
      · obtain ⟨hA2, hM2⟩ := HO.out.ok he
        have HA2 : Hid (Acc w2 base v2 (acc ++ (done ++ Bx.1))) := by
          show Acc _ _ _ _
          rw [← List.append_assoc]; exact hA2
        have HM2 : Hid (Moved w v v2) := HMv.out.trans (w1 := wr) (by
          rcases hM2 with hM2 | ⟨g, hg, hl⟩
          · exact .inl hM2
          · exact .inr ⟨g, hg, by simp at hl; omega⟩) hsz
        have HB2 : Hid (B = cat (done ++ Bx.1, 0) (goB (tyB n) (t.kids.drop (k + 1)))) := by
          have := HBk.out
          rw [goB_drop HX.out, ← HBX.out] at this
          exact go_next this he
        have HBD2 : Hid (acc.length + (done ++ Bx.1).length + ((t.kids.drop (k + 1)).map (wgt n)).sum ≤ 140737488355328) := by
          show _ ≤ _
          have := HBDk.out
          rw [sum_drop HX.out] at this
          have h2 := tyB_len n x
          rw [← HBX.out] at h2
          rw [List.length_append]; omega
        clear hA2 hM2
        rw [he]
        go_wp2_with fail
        go_roundw
        case rel => exact ⟨k + 1, done ++ Bx.1, by omega, by go_num, HA2, HB2, HBD2, HG2, HM2⟩
        case measure => simp [intOf]; omega
      · have t2 : (Bx.2 == 0) = false := by simpa using he
        have HE : Hid (B = ([], Bx.2)) := by
          have := HBk.out
          rw [goB_drop HX.out, ← HBX.out] at this
          exact go_fail this he
        have HHE : Hid _ := he
        clear he
        go_wp2_with fail
        go_ret2
        exact ⟨_, by rw [HE.out]; rfl, HG2, fun hh => absurd hh (by rw [HE.out]; exact HHE.out), fun _ => rfl⟩
    · have HE : Hid (B = (done, 0)) := by
        have := HBk.out
        rw [List.drop_eq_nil_of_le (by rw [HL.out]; omega), goB, cat_ok (by rfl) (by rfl), List.append_nil] at this
        exact this
      go_wp2_with fail
      go_ret2
      exact ⟨_, by rw [HE.out]; rfl, HG, fun _ => ⟨by rw [HE.out]; exact HAk, HMv⟩, fun hh => absurd (by rw [HE.out]) hh⟩

theorem On.then {base : Nat} {w w1 w2 : World} {v v1 v2 : Value} {acc : List Int} {B C : List Int × Int} (h : On base w v acc B w1 v1) (hb : B.2 = 0) (k : On base w1 v1 (acc ++ B.1) C w2 v2) : On base w v acc (cat B C) w2 v2 := by
  obtain ⟨hA, hM⟩ := h.ok hb
  refine ⟨grownBy_then h.grown hM k.grown, fun hc => ?_, fun hc => ?_⟩
  · rw [cat_err hb] at hc
    obtain ⟨kA, kM⟩ := k.ok hc
    refine ⟨?_, hM.trans kM h.grown.size⟩
    rw [cat_ok hb hc]
    show Acc _ _ _ (acc ++ (B.1 ++ C.1))
    rw [← List.append_assoc]; exact kA
  · rw [cat_err hb] at hc
    exact k.no hc

theorem On.stop {base : Nat} {w w1 : World} {v v1 : Value} {acc : List Int} {B C : List Int × Int} (h : On base w v acc B w1 v1) (hb : B.2 ≠ 0) : On base w v acc (cat B C) w1 (.slice none 0 0) := by
  rw [cat_no hb]
  exact ⟨h.grown, fun hc => absurd hc hb, fun _ => rfl⟩

/-- Behind a box. -/
theorem On.box {base : Nat} {w w1 : World} {v v1 : Value} {acc : List Int} {B : List Int × Int} {o : Obj} (h : On base (w.alloc o) v acc B w1 v1) : On base w v acc B w1 v1 := by
  refine ⟨(below_grownBy (below_one w o) _).trans h.grown, fun hb => ⟨(h.ok hb).1, ?_⟩, h.no⟩
  rcases (h.ok hb).2 with hm | ⟨g, hg, hl⟩
  · exact .inl hm
  · exact .inr ⟨g, hg, by simp at hl; omega⟩

theorem On.below {base : Nat} {w w0 w1 : World} {v v1 : Value} {acc : List Int} {B : List Int × Int} (hB : Below w.heap.size w w0) (h : On base w0 v acc B w1 v1) : On base w v acc B w1 v1 := by
  refine ⟨(below_grownBy hB _).trans h.grown, fun hb => ⟨(h.ok hb).1, ?_⟩, h.no⟩
  rcases (h.ok hb).2 with hm | ⟨g, hg, hl⟩
  · exact .inl hm
  · exact .inr ⟨g, hg, Nat.le_trans hB.size hl⟩

theorem cell_box (w : World) (c : Array Value) (ty : TypeId) (j : Nat) (u : Value) (hu : c[j]? = some u) : (w.alloc (.cells c ty)).cell? ⟨w.heap.size, j, none⟩ = some u := by
  rw [Lib.cell_of_heap (heap_alloc_new w _)]; exact hu

/-- A box's cell is still there. -/
theorem On.boxed {base : Nat} {w w1 : World} {v v1 : Value} {acc : List Int} {B : List Int × Int} {o : Obj} (h : On base (w.alloc o) v acc B w1 v1) (ha : Acc w base v acc) (j : Nat) : w1.cell? ⟨w.heap.size, j, none⟩ = (w.alloc o).cell? ⟨w.heap.size, j, none⟩ :=
  h.cell (a := ⟨w.heap.size, j, none⟩) (by simp) (fun e => by have := (ha.lt _ e).2; simp at this)

set_option maxHeartbeats 1000000 in
theorem putTuple_any (n : Nat) (ih : ∀ m, n = m + 1 → PutsTy m) {base : Nat} {w : World} {v : Value} {acc : List Int} {t : Ty} {na : Option Addr} {nl nc : Nat} {ka : Option Addr} {kl kc : Nat} (ha : Acc w base v acc) (hb0 : 0 < base) (hb : base ≤ w.heap.size)
    (h : TyAt n (fun k => k < base) w t na nl nc ka kl kc) (hT : Tab w) (hbd : acc.length + 2 + (t.kids.map (wgt n)).sum ≤ 140737488355328) {B : List Int × Int} (hB : B = cat (countB t.kids.length) (goB (tyB n) t.kids)) :
    Calls Tryd.prog 97 #[v, .agg #[.int .u16 t.id, .string t.space, .string t.name, .slice na nl nc, .slice ka kl kc]] w fun e w' => ∃ v', e = .returned (.tuple #[v', .int .i64 B.2]) ∧ Hid (On base w v acc B w' v') := by
  obtain ⟨C, hC⟩ : ∃ C, C = countB t.kids.length := ⟨_, rfl⟩
  obtain ⟨G, hG⟩ : ∃ G, G = goB (tyB n) t.kids := ⟨_, rfl⟩
  rw [← hC, ← hG] at hB
  rw [h.kl_eq] at hC
  have hkl := h.kl_le
  have HLM : Hid (kl ≤ maxLen) := Nat.le_trans hkl.1 hkl.2
  have HA : Hid (Acc w base v acc) := ha
  have H : Hid (TyAt n (fun k => k < base) w t na nl nc ka kl kc) := h
  have HT : Hid (Tab w) := hT
  have HB : Hid _ := hB
  have HC : Hid _ := hC
  have HGG : Hid _ := hG
  have HBD : Hid _ := hbd
  clear ha h hT hB hC hG hbd hkl
  go_enter Tryd.func97, Tryd.ntmps97
  go_wp2_with fail
  refine (putCount_any (HA.out.grown (below_one _ _)) (by simp; omega) (by have := HBD.out; omega) kl HLM.out HC.out).mono ?_
  rintro e w1 ⟨v1, rfl, hO⟩
  have hbx : w1.cell? ⟨w.heap.size, 4, .none⟩ = some (.slice ka kl kc) := (hO.boxed HA.out 4).trans (cell_box _ _ _ _ _ rfl)
  have HO : Hid (On _ _ _ _ _ _ _) := hO
  clear hO
  by_cases he : C.2 = 0
  · have HLT : Hid (∀ j, v.ownBlock = some j → base ≤ j) := fun j hj => (HA.out.lt j hj).1
    have HBD2 : Hid ((acc ++ C.1).length + (t.kids.map (wgt n)).sum ≤ 140737488355328) := by
      show _ ≤ _
      have := HBD.out
      have h2 := countB_len kl
      rw [← HC.out] at h2
      rw [List.length_append]; omega
    have hs1 := HO.out.grown.size
    simp at hs1
    rw [he]
    go_wp2_with fail
    refine (putKids_any n ih (HO.out.ok he).1 hb0 (by omega) ((H.out.old (below_one _ _)).on HO.out.grown HLT.out) ((HT.out.old (below_one _ _)).on HO.out.grown HLT.out hb0) HBD2.out HGG.out).mono ?_
    rintro e w2 ⟨v2, rfl, HO2⟩
    have HO3 : Hid (On base w v acc B w2 v2) := by
      show On _ _ _ _ _ _ _
      rw [HB.out]; exact (HO.out.then he HO2.out).box
    have HBE : Hid (B.2 = G.2) := by show _ = _; rw [HB.out, cat_err he]
    go_wp2_with fail
    go_ret2
    exact ⟨v2, by rw [HBE.out]; rfl, HO3⟩
  · have t2 : (C.2 == 0) = false := by simpa using he
    have HO3 : Hid (On base w v acc B w1 (.slice none 0 0)) := by
      show On _ _ _ _ _ _ _
      rw [HB.out]; exact (HO.out.stop he).box
    have HBE : Hid (B.2 = C.2) := by show _ = _; rw [HB.out, cat_no he]
    clear he
    go_wp2_with fail
    go_ret2
    exact ⟨_, by rw [HBE.out]; rfl, HO3⟩
end Go.Proofs.YtnapeecmlkkolaaDoor

namespace Go.Proofs.YtnapeecmlkkolaaDoor
open Go.RowKit
set_option linter.unusedVariables false
set_option linter.unusedSimpArgs false

theorem sum_zip_drop {ns : List ByteArray} {xs : List Ty} {f : Ty → Nat} {k : Nat} {s : ByteArray} {x : Ty} (hs : ns[k]? = some s) (hx : xs[k]? = some x) :
    (((ns.zip xs).drop k).map fun p => 65537 + f p.2).sum = 65537 + f x + (((ns.zip xs).drop (k + 1)).map fun p => 65537 + f p.2).sum := by
  have hz : (ns.zip xs)[k]? = some (s, x) := by rw [List.getElem?_zip_eq_some]; exact ⟨hs, hx⟩
  have hk := (List.getElem?_eq_some_iff.1 hz).1
  rw [List.drop_eq_getElem_cons hk, (List.getElem?_eq_some_iff.1 hz).2, List.map_cons, List.sum_cons]

theorem fieldB_len (n : Nat) (s : ByteArray) (x : Ty) : (fieldB (tyB n) (s, x)).1.length ≤ 65537 + wgt n x := by
  have h1 := cat_len (textB s) (tyB n x)
  have h2 := textB_len s
  have h3 := tyB_len n x
  show (cat (textB s) (tyB n x)).1.length ≤ 65537 + wgt n x
  omega

theorem Moved.far {w : World} {o : Obj} {base : Nat} {v u : Value} {acc : List Int} (h : Moved (w.alloc o) v u) (ha : Acc w base v acc) : u.ownBlock ≠ some w.heap.size := by
  intro e
  rcases h with h | ⟨g, hg, hl⟩
  · rw [h] at e
    have := (ha.lt _ e).2
    omega
  · rw [hg] at e; cases e
    simp at hl; omega

set_option maxHeartbeats 2000000 in
theorem putUdt_any (n : Nat) (ih : ∀ m, n = m + 1 → PutsTy m) {base : Nat} {w : World} {v : Value} {acc : List Int} {t : Ty} {na : Option Addr} {nc : Nat} {ka : Option Addr} {kl kc : Nat} (ha : Acc w base v acc) (hb0 : 0 < base) (hb : base ≤ w.heap.size)
    (h : TyAt n (fun k => k < base) w t na kl nc ka kl kc) (hT : Tab w) (hbd : acc.length + 131076 + 65537 * t.names.length + (t.kids.map (wgt n)).sum ≤ 140737488355328) {B : List Int × Int}
    (hB : B = cat (textB t.space) (cat (textB t.name) (cat (countB t.kids.length) (goB (fieldB (tyB n)) (t.names.zip t.kids))))) :
    Calls Tryd.prog 96 #[v, .agg #[.int .u16 t.id, .string t.space, .string t.name, .slice na kl nc, .slice ka kl kc]] w fun e w' => ∃ v', e = .returned (.tuple #[v', .int .i64 B.2]) ∧ Hid (On base w v acc B w' v') := by
  obtain ⟨S, hS⟩ : ∃ C, C = textB t.space := ⟨_, rfl⟩
  obtain ⟨M, hM⟩ : ∃ C, C = textB t.name := ⟨_, rfl⟩
  obtain ⟨C, hC⟩ : ∃ C, C = countB t.kids.length := ⟨_, rfl⟩
  obtain ⟨G, hG⟩ : ∃ G, G = goB (fieldB (tyB n)) (t.names.zip t.kids) := ⟨_, rfl⟩
  rw [← hC, ← hG, ← hS, ← hM] at hB
  rw [h.kl_eq] at hC
  have HLS : Hid (S.1.length ≤ 65537) := by show _ ≤ _; rw [hS]; exact textB_len _
  have HLN : Hid (M.1.length ≤ 65537) := by show _ ≤ _; rw [hM]; exact textB_len _
  have HLC : Hid (C.1.length ≤ 2) := by show _ ≤ _; rw [hC]; exact countB_len _
  have hkl := h.kl_le
  have HLM : Hid (kl ≤ maxLen) := Nat.le_trans hkl.1 hkl.2
  unfold maxLen at hkl
  have hnl := h.nl_le
  unfold maxLen at hnl
  have HL : Hid (t.kids.length = kl) := h.kl_eq
  have HNL : Hid (t.names.length = kl) := h.nl_eq
  have HA : Hid (Acc w base v acc) := ha
  have H : Hid (TyAt n (fun k => k < base) w t na kl nc ka kl kc) := h
  have HSP : Hid (t.space.size ≤ maxLen ∧ t.name.size ≤ maxLen) := ⟨h.2.1, h.2.2.1⟩
  have HT : Hid (Tab w) := hT
  have HB : Hid _ := hB
  have HS : Hid _ := hS
  have HM : Hid _ := hM
  have HC : Hid _ := hC
  have HGG : Hid _ := hG
  have HBD : Hid _ := hbd
  have IH : Hid _ := ih
  have HLT : Hid (∀ j, v.ownBlock = some j → base ≤ j) := fun j hj => (HA.out.lt j hj).1
  clear ha h hT hB hC hG hbd hS hM ih
  go_enter Tryd.func96, Tryd.ntmps96
  go_wp2_with fail
  refine (putText_any (HA.out.grown (below_one _ _)) (by simp; omega) (by have := HBD.out; omega) t.space HSP.out.1 HS.out).mono ?_
  rintro e w1 ⟨v1, rfl, hO⟩
  have hbx1 : w1.cell? ⟨w.heap.size, 2, .none⟩ = some (.string t.name) := (hO.boxed HA.out 2).trans (cell_box _ _ _ _ _ rfl)
  have HO1 : Hid (On _ _ _ _ _ _ _) := hO
  clear hO
  by_cases he1 : S.2 = 0
  · have hs1 := HO1.out.grown.size
    simp at hs1
    obtain ⟨hA1, hM1⟩ := HO1.out.ok he1
    obtain ⟨X1, hX1⟩ : ∃ X1, X1 = acc ++ S.1 := ⟨_, rfl⟩
    rw [← hX1] at hA1
    have HX1 : Hid (X1.length ≤ acc.length + 65537) := by show _ ≤ _; have := HLS.out; rw [hX1, List.length_append]; omega
    have HA1 : Hid (Acc w1 base v1 X1) := hA1
    have HX1e : Hid _ := hX1
    clear hA1 hM1 hX1
    rw [he1]
    go_wp2_with fail
    refine (putText_any HA1.out (by omega) (by have := HBD.out; have := HX1.out; omega) t.name HSP.out.2 HM.out).mono ?_
    rintro e w2 ⟨v2, rfl, hO2⟩
    have HO2 : Hid (On _ _ _ _ _ _ _) := hO2
    have HO12 : Hid (On base (w.alloc (.cells #[.int .u16 t.id, .string t.space, .string t.name, .slice na kl nc, .slice ka kl kc] 62)) v acc (cat S M) w2 v2) := HO1.out.then he1 (HX1e.out ▸ hO2)
    have hbx2 : w2.cell? ⟨w.heap.size, 4, .none⟩ = some (.slice ka kl kc) := (HO12.out.boxed HA.out 4).trans (cell_box _ _ _ _ _ rfl)
    clear hO2
    by_cases he2 : M.2 = 0
    · have hs2 := HO2.out.grown.size
      obtain ⟨hA2, hM2⟩ := HO2.out.ok he2
      obtain ⟨X2, hX2⟩ : ∃ X2, X2 = X1 ++ M.1 := ⟨_, rfl⟩
      rw [← hX2] at hA2
      have HX2 : Hid (X2.length ≤ acc.length + 131074) := by show _ ≤ _; have := HLN.out; have := HX1.out; rw [hX2, List.length_append]; omega
      have HA2 : Hid (Acc w2 base v2 X2) := hA2
      have HX2e : Hid _ := hX2
      clear hA2 hM2 hX2
      rw [he2]
      go_wp2_with fail
      refine (putCount_any HA2.out (by omega) (by have := HBD.out; have := HX2.out; omega) kl HLM.out HC.out).mono ?_
      rintro e w3 ⟨v3, rfl, hO3⟩
      have HO3 : Hid (On base w2 v2 X2 C w3 v3) := hO3
      have HO23 : Hid (On base w1 v1 X1 (cat M C) w3 v3) := HO2.out.then he2 (HX2e.out ▸ hO3)
      have HO13 : Hid (On base (w.alloc (.cells #[.int .u16 t.id, .string t.space, .string t.name, .slice na kl nc, .slice ka kl kc] 62)) v acc (cat S (cat M C)) w3 v3) := HO1.out.then he1 (HX1e.out ▸ HO23.out)
      have hbx3 : w3.cell? ⟨w.heap.size, 4, .none⟩ = some (.slice ka kl kc) := (HO13.out.boxed HA.out 4).trans (cell_box _ _ _ _ _ rfl)
      have HBX3 : Hid (w3.cell? ⟨w.heap.size, 3, .none⟩ = some (.slice na kl nc)) := (HO13.out.boxed HA.out 3).trans (cell_box _ _ _ _ _ rfl)
      clear hO3
      by_cases he3 : C.2 = 0
      · have hs3 := HO3.out.grown.size
        have he13 : (cat S (cat M C)).2 = 0 := by rw [cat_err he1, cat_err he2, he3]
        have HMV : Hid (Moved _ _ _) := (HO13.out.ok he13).2
        obtain ⟨hA3, hM3⟩ := HO3.out.ok he3
        obtain ⟨X3, hX3⟩ : ∃ X3, X3 = X2 ++ C.1 := ⟨_, rfl⟩
        rw [← hX3] at hA3
        have HX3 : Hid (X3.length ≤ acc.length + 131076) := by show _ ≤ _; have := HLC.out; have := HX2.out; rw [hX3, List.length_append]; omega
        have HA3 : Hid (Acc w3 base v3 X3) := hA3
        have HX3e : Hid _ := hX3
        have HTY3 : Hid (TyAt n (fun k => k < base) w3 t na kl nc ka kl kc) := (H.out.old (below_one _ _)).on HO13.out.grown HLT.out
        have HT3 : Hid (Tab w3) := (HT.out.old (below_one _ _)).on HO13.out.grown HLT.out hb0
        have HLT3 : Hid (∀ j, v3.ownBlock = some j → base ≤ j) := fun j hj => (HA3.out.lt j hj).1
        have HFAR : Hid (v3.ownBlock ≠ some w.heap.size) := HMV.out.far HA.out
        have HB0 : Hid (G = cat ([], 0) (goB (fieldB (tyB n)) ((t.names.zip t.kids).drop 0))) := by
          show _ = _
          rw [List.drop_zero, ← HGG.out]
          exact (nil_cat (HGG.out ▸ goB_pure _)).symm
        have HBD0 : Hid (X3.length + [].length (α := Int) + (((t.names.zip t.kids).drop 0).map fun p => 65537 + wgt n p.2).sum ≤ 140737488355328) := by
          show _ ≤ _
          rw [List.drop_zero]
          have := zip_sum (wgt n) t.names t.kids
          have := HBD.out
          have := HX3.out
          simp only [List.length_nil]
          omega
        clear hA3 hM3 hX3 he13
        rw [he3]
        go_wp2_with fail
        go_loopw [0, 43] (fun u i wr => ∃ (k : Nat) (done : List Int), k ≤ kl ∧ i = .int .i64 k ∧ Hid (Acc wr base u (X3 ++ done)) ∧ Hid (G = cat (done, 0) (goB (fieldB (tyB n)) ((t.names.zip t.kids).drop k))) ∧
            Hid (X3.length + done.length + (((t.names.zip t.kids).drop k).map fun p => 65537 + wgt n p.2).sum ≤ 140737488355328) ∧ Hid (w3.grownBy wr v3.ownBlock) ∧ Hid (Moved w3 v3 u)) (fun _ i _ => kl - (intOf i).toNat)
        case atStart => exact ⟨0, [], by omega, rfl, by rw [List.append_nil]; exact HA3, HB0, HBD0, World.grownBy.refl _ _, Moved.refl _ _⟩
        case round =>
          obtain ⟨k, done, hk, rfl, HAk, HBk, HBDk, HG, HMv⟩ := hrel
          have hsz := HG.out.size
          have hbxr : wr.cell? ⟨w.heap.size, 3, .none⟩ = some (.slice na kl nc) := (HG.out.cell_far ⟨w.heap.size, 3, .none⟩ (by show w.heap.size < _; omega) (fun e => HFAR.out e.symm)).trans HBX3.out
          have hwl : w.heap.size < wr.heap.size := by omega
          have HTYk : Hid (TyAt n (fun k => k < base) wr t na kl nc ka kl kc) := HTY3.out.on HG.out HLT3.out
          by_cases hlt : k < kl
          · obtain ⟨m, hm⟩ := H.out.pos (by omega)
            obtain ⟨s, bn, offn, hsn, rfl, hbn, cn, hsm⟩ := HTYk.out.name_at (k := k) (by omega)
            obtain ⟨x, b, off, xa, xl, xc, ya, yl, yc, hx, rfl, hbs, c0, c1, c2, c3, c4, hin⟩ := (hm ▸ HTYk.out : TyAt (m + 1) (fun k => k < base) wr t (some ⟨bn, offn, .none⟩) kl nc ka kl kc).kid hlt
            obtain ⟨Bs, hBs⟩ : ∃ Bs, Bs = textB s := ⟨_, rfl⟩
            obtain ⟨Bx, hBx⟩ : ∃ Bx, Bx = tyB n x := ⟨_, rfl⟩
            have HX : Hid _ := hx
            have HSN : Hid _ := hsn
            have HSM : Hid _ := hsm
            have HIN : Hid (TyAt m (fun k => k < base) wr x xa xl xc ya yl yc) := hin
            have HBX : Hid _ := hBx
            have HBS : Hid _ := hBs
            have HBSL : Hid (Bs.1.length ≤ 65537) := by show _ ≤ _; rw [hBs]; exact textB_len _
            have HW : Hid ((X3 ++ done).length + 65537 + wgt (m + 1) x ≤ 140737488355328) := by
              show _ ≤ _
              have := HBDk.out
              rw [sum_zip_drop hsn hx, hm] at this
              rw [List.length_append]; omega
            have HBX2 : Hid (Bx = tyB (m + 1) x) := by show _ = _; rw [hBx, hm]
            have HTk : Hid (Tab wr) := HT3.out.on HG.out HLT3.out hb0
            have HMM : Hid _ := hm
            have HGD : Hid (goB (fieldB (tyB n)) ((t.names.zip t.kids).drop k) = cat (cat Bs Bx) (goB (fieldB (tyB n)) ((t.names.zip t.kids).drop (k + 1)))) := by
              show _ = _
              rw [goB_drop (x := (s, x)) (by rw [List.getElem?_zip_eq_some]; exact ⟨hsn, hx⟩), hBs, hBx]; rfl
            clear hx hin hBx hm hsn hsm hBs
            go_wp2_with fail
            refine (putText_any (HAk.out.grown (below_one _ _)) (by simp; omega) (by have := HW.out; omega) s HSM.out HBS.out).mono ?_
            rintro e w4 ⟨v4, rfl, hO4⟩
            have d0 : w4.cell? ⟨wr.heap.size, 0, .none⟩ = some (.int .u16 x.id) := (hO4.boxed HAk.out 0).trans (cell_box _ _ _ _ _ rfl)
            have d1 : w4.cell? ⟨wr.heap.size, 1, .none⟩ = some (.string x.space) := (hO4.boxed HAk.out 1).trans (cell_box _ _ _ _ _ rfl)
            have d2 : w4.cell? ⟨wr.heap.size, 2, .none⟩ = some (.string x.name) := (hO4.boxed HAk.out 2).trans (cell_box _ _ _ _ _ rfl)
            have d3 : w4.cell? ⟨wr.heap.size, 3, .none⟩ = some (.slice xa xl xc) := (hO4.boxed HAk.out 3).trans (cell_box _ _ _ _ _ rfl)
            have d4 : w4.cell? ⟨wr.heap.size, 4, .none⟩ = some (.slice ya yl yc) := (hO4.boxed HAk.out 4).trans (cell_box _ _ _ _ _ rfl)
            have HO4 : Hid (On _ _ _ _ _ _ _) := hO4
            have HG4 : Hid (w3.grownBy w4 v3.ownBlock) := grownBy_then HG.out HMv.out (((below_grownBy (below_one wr _) _)).trans hO4.grown)
            clear hO4
            by_cases he4 : Bs.2 = 0
            · have hs4 := HO4.out.grown.size
              simp at hs4
              have HLTk : Hid (∀ j, u0.ownBlock = some j → base ≤ j) := fun j hj => (HAk.out.lt j hj).1
              rw [he4]
              go_wp2_with fail
              refine (IH.out m HMM.out base _ v4 ((X3 ++ done) ++ Bs.1) x xa xl xc ya yl yc (HO4.out.ok he4).1 hb0 (by omega) ((HIN.out.old (below_one _ _)).on HO4.out.grown HLTk.out) ((HTk.out.old (below_one _ _)).on HO4.out.grown HLTk.out hb0)
                (by have := HW.out; have := HBSL.out; rw [List.length_append]; omega) Bx HBX2.out).mono ?_
              rintro e w5 ⟨v5, rfl, HO5⟩
              have HO45 : Hid (On base wr u0 (X3 ++ done) (cat Bs Bx) w5 v5) := (HO4.out.then he4 HO5.out).box
              have HG5 : Hid (w3.grownBy w5 v3.ownBlock) := grownBy_then HG.out HMv.out HO45.out.grown
              by_cases he5 : Bx.2 = 0
              · have he45 : (cat Bs Bx).2 = 0 := by rw [cat_err he4, he5]
                obtain ⟨hA5, hM5⟩ := HO45.out.ok he45
                have HA5 : Hid (Acc w5 base v5 (X3 ++ (done ++ (cat Bs Bx).1))) := by
                  show Acc _ _ _ _
                  rw [← List.append_assoc]; exact hA5
                have HM5 : Hid (Moved w3 v3 v5) := HMv.out.trans hM5 hsz
                have HB5 : Hid (G = cat (done ++ (cat Bs Bx).1, 0) (goB (fieldB (tyB n)) ((t.names.zip t.kids).drop (k + 1)))) := by
                  have := HBk.out
                  rw [HGD.out] at this
                  exact go_next this he45
                have HBD5 : Hid (X3.length + (done ++ (cat Bs Bx).1).length + (((t.names.zip t.kids).drop (k + 1)).map fun p => 65537 + wgt n p.2).sum ≤ 140737488355328) := by
                  show _ ≤ _
                  have := HBDk.out
                  rw [sum_zip_drop HSN.out HX.out] at this
                  have h2 := fieldB_len n s x
                  have h3 : fieldB (tyB n) (s, x) = cat Bs Bx := by rw [HBS.out, HBX.out]; rfl
                  rw [h3] at h2
                  rw [List.length_append]; omega
                generalize (cat Bs Bx).1 = Z at *
                clear hA5 hM5 he45
                rw [he5]
                go_wp2_with fail
                go_roundw
                case rel => exact ⟨k + 1, done ++ Z, by omega, by go_num, HA5, HB5, HBD5, HG5, HM5⟩
                case measure => simp [intOf]; omega
              · have t2 : (Bx.2 == 0) = false := by simpa using he5
                have HE : Hid (G = ([], Bx.2)) := by
                  have := HBk.out
                  rw [HGD.out] at this
                  have h2 := go_fail this (by rw [cat_err he4]; exact he5)
                  rw [cat_err he4] at h2
                  exact h2
                have HO35 : Hid (On base w3 v3 X3 G w5 (.slice none 0 0)) := ⟨HG5.out, fun hh => absurd hh (by rw [HE.out]; exact he5), fun _ => rfl⟩
                have HBE : Hid (B.2 = Bx.2) := by show _ = _; rw [HB.out, cat_err he1, cat_err he2, cat_err he3, HE.out]
                have HON : Hid (On base w v acc B w5 (.slice none 0 0)) := by
                  show On _ _ _ _ _ _ _
                  rw [HB.out]
                  exact (HO1.out.then he1 (HX1e.out ▸ HO2.out.then he2 (HX2e.out ▸ HO3.out.then he3 (HX3e.out ▸ HO35.out)))).box
                clear he5
                go_wp2_with fail
                go_ret2
                exact ⟨_, by rw [HBE.out]; rfl, HON⟩
            · have t2 : (Bs.2 == 0) = false := by simpa using he4
              have HE : Hid (G = ([], Bs.2)) := by
                have := HBk.out
                rw [HGD.out, cat_no he4] at this
                exact go_fail (b := ([], Bs.2)) this (by exact he4)
              have HO34 : Hid (On base w3 v3 X3 G w4 (.slice none 0 0)) := ⟨HG4.out, fun hh => absurd hh (by rw [HE.out]; exact he4), fun _ => rfl⟩
              have HBE : Hid (B.2 = Bs.2) := by show _ = _; rw [HB.out, cat_err he1, cat_err he2, cat_err he3, HE.out]
              have HON : Hid (On base w v acc B w4 (.slice none 0 0)) := by
                show On _ _ _ _ _ _ _
                rw [HB.out]
                exact (HO1.out.then he1 (HX1e.out ▸ HO2.out.then he2 (HX2e.out ▸ HO3.out.then he3 (HX3e.out ▸ HO34.out)))).box
              clear he4
              go_wp2_with fail
              go_ret2
              exact ⟨_, by rw [HBE.out]; rfl, HON⟩
          · have HE : Hid (G = (done, 0)) := by
              have := HBk.out
              rw [List.drop_eq_nil_of_le (by rw [List.length_zip, HL.out, HNL.out]; omega), goB, cat_ok (by rfl) (by rfl), List.append_nil] at this
              exact this
            have HO34 : Hid (On base w3 v3 X3 G wr u0) := ⟨HG.out, fun _ => ⟨by rw [HE.out]; exact HAk, HMv⟩, fun hh => absurd (by rw [HE.out]) hh⟩
            have HBE : Hid (B.2 = 0) := by show _ = _; rw [HB.out, cat_err he1, cat_err he2, cat_err he3, HE.out]
            have HON : Hid (On base w v acc B wr u0) := by
              show On _ _ _ _ _ _ _
              rw [HB.out]
              exact (HO1.out.then he1 (HX1e.out ▸ HO2.out.then he2 (HX2e.out ▸ HO3.out.then he3 (HX3e.out ▸ HO34.out)))).box
            go_wp2_with fail
            go_ret2
            exact ⟨_, by rw [HBE.out]; rfl, HON⟩
      · have t2 : (C.2 == 0) = false := by simpa using he3
        have HON : Hid (On base w v acc B w3 (.slice none 0 0)) := by
          show On _ _ _ _ _ _ _
          rw [HB.out]
          exact (HO1.out.then he1 (HX1e.out ▸ HO2.out.then he2 (HX2e.out ▸ HO3.out.stop he3))).box
        have HBE : Hid (B.2 = C.2) := by show _ = _; rw [HB.out, cat_err he1, cat_err he2, cat_no he3]
        clear he3
        go_wp2_with fail
        go_ret2
        exact ⟨_, by rw [HBE.out]; rfl, HON⟩
    · have t2 : (M.2 == 0) = false := by simpa using he2
      have HON : Hid (On base w v acc B w2 (.slice none 0 0)) := by
        show On _ _ _ _ _ _ _
        rw [HB.out]
        exact (HO1.out.then he1 (HX1e.out ▸ HO2.out.stop he2)).box
      have HBE : Hid (B.2 = M.2) := by show _ = _; rw [HB.out, cat_err he1, cat_no he2]
      clear he2
      go_wp2_with fail
      go_ret2
      exact ⟨_, by rw [HBE.out]; rfl, HON⟩
  · have t2 : (S.2 == 0) = false := by simpa using he1
    have HON : Hid (On base w v acc B w1 (.slice none 0 0)) := by
      show On _ _ _ _ _ _ _
      rw [HB.out]; exact (HO1.out.stop he1).box
    have HBE : Hid (B.2 = S.2) := by show _ = _; rw [HB.out, cat_no he1]
    clear he1
    go_wp2_with fail
    go_ret2
    exact ⟨_, by rw [HBE.out]; rfl, HON⟩

set_option maxHeartbeats 1000000 in
theorem putType_no (n : Nat) {base : Nat} {w : World} {v : Value} {t : Ty} {na : Option Addr} {nl nc : Nat} {ka : Option Addr} {kl kc : Nat}
    (h : TyAt n (fun k => k < base) w t na nl nc ka kl kc) (hT : Tab w) (hh : hasB t.id t.kids.length t.names.length = false) :
    Calls Tryd.prog 89 #[v, .agg #[.int .u16 t.id, .string t.space, .string t.name, .slice na nl nc, .slice ka kl kc]] w fun e w' => e = .returned (.tuple #[.slice none 0 0, .int .i64 1]) ∧ Below w.heap.size w w' := by
  have H : Hid (TyAt n (fun k => k < base) w t na nl nc ka kl kc) := h
  have HT : Hid (Tab w) := hT
  have HH : Hid _ := hh
  clear h hT hh
  go_enter Tryd.func89, Tryd.ntmps89
  go_wp2_with fail
  refine (has_any (H.out.old (below_one _ _)) (HT.out.old (below_one _ _)) HH.out.symm).mono ?_
  rintro e w1 ⟨rfl, hB⟩
  go_wp2_with fail
  go_ret2
  exact ⟨rfl, (below_one _ _).trans (hB.mono (by simp))⟩

set_option maxHeartbeats 1000000 in
theorem putType_custom (n : Nat) (ih : ∀ m, n = m + 1 → PutsTy m) {base : Nat} {w : World} {v : Value} {acc : List Int} {t : Ty} {na : Option Addr} {nl nc : Nat} {ka : Option Addr} {kl kc : Nat} (ha : Acc w base v acc) (hb0 : 0 < base) (hb : base ≤ w.heap.size)
    (h : TyAt n (fun k => k < base) w t na nl nc ka kl kc) (hT : Tab w) (hbd : acc.length + wgt (n + 1) t ≤ 140737488355328) (hh : hasB t.id t.kids.length t.names.length = true) (q0 : (t.id == 0) = true) {R : List Int × Int} (hR : R = textB t.name) :
    Calls Tryd.prog 89 #[v, .agg #[.int .u16 t.id, .string t.space, .string t.name, .slice na nl nc, .slice ka kl kc]] w fun e w' => ∃ v', e = .returned (.tuple #[v', .int .i64 R.2]) ∧ Hid (On base w v acc (cat (putL t.id 2, 0) R) w' v') := by
  have hid := h.idr
  have HA : Hid (Acc w base v acc) := ha
  have H : Hid (TyAt n (fun k => k < base) w t na nl nc ka kl kc) := h
  have HT : Hid (Tab w) := hT
  have HH : Hid _ := hh
  have HR : Hid _ := hR
  have HSP : Hid (t.space.size ≤ maxLen ∧ t.name.size ≤ maxLen) := ⟨h.2.1, h.2.2.1⟩
  have HBD : Hid (acc.length + (131078 + 65537 * t.names.length + (t.kids.map (wgt n)).sum) ≤ 140737488355328) := hbd
  have HLT : Hid (∀ j, v.ownBlock = some j → base ≤ j) := fun j hj => (HA.out.lt j hj).1
  clear ha h hT hh hbd hR
  go_enter Tryd.func89, Tryd.ntmps89
  go_wp2_with fail
  refine (has_any (H.out.old (below_one _ _)) (HT.out.old (below_one _ _)) HH.out.symm).mono ?_
  rintro e w1 ⟨rfl, hBa⟩
  have hc0 : w1.cell? ⟨w.heap.size, 0, .none⟩ = some (.int .u16 t.id) := (hBa.cell (by simp)).trans (cell_box _ _ _ _ _ rfl)
  have hsz1 := hBa.size
  simp at hsz1
  go_wp2_with fail
  refine (put_own t.id 2 _ (by omega) (by omega) (by omega) _ rfl).mono ?_
  rintro e w2 ⟨v2, rfl, ho, hBb⟩
  obtain ⟨a2, cp2, rfl, hp2⟩ := isB_own ho (putL_range _ _)
  have HP : Hid (IsB _ _ _ _ _) := hp2
  have hB2 := hBa.trans (hBb.mono hBa.size)
  have hsz2 := hBb.size
  have HA2 : Hid (Acc w2 base v acc) := (HA.out.grown (below_one _ _)).grown hB2
  clear ho hp2 hBa hBb
  go_wp2_with (at_builtin; refine wpList_append_on rfl (.tmp 9) (.tmp 13) rfl rfl HA2.out rfl HP.out (by have := HBD.out; omega) (by omega) ?_)
  intro v3 w3 HO2 hg2 hm2
  have HO3 : Hid (On base (w.alloc (.cells #[.int .u16 t.id, .string t.space, .string t.name, .slice na nl nc, .slice ka kl kc] 62)) v acc (putL t.id 2, 0) w3 v3) :=
    ⟨(below_grownBy hB2 _).trans hg2, fun _ => ⟨HO2.out, (Moved.refl _ v).trans hm2 hB2.size⟩, fun hx => absurd rfl hx⟩
  have d0 : w3.cell? ⟨w.heap.size, 0, .none⟩ = some (.int .u16 t.id) := (HO3.out.boxed HA.out 0).trans (cell_box _ _ _ _ _ rfl)
  have d2 : w3.cell? ⟨w.heap.size, 2, .none⟩ = some (.string t.name) := (HO3.out.boxed HA.out 2).trans (cell_box _ _ _ _ _ rfl)
  have hsz3 := HO3.out.grown.size
  simp at hsz3
  obtain ⟨X3, hX3⟩ : ∃ X3, X3 = acc ++ putL t.id 2 := ⟨_, rfl⟩
  have HX3l : Hid (X3.length = acc.length + 2) := by show _ = _; rw [hX3, List.length_append, putL_length]
  have HX3 : Hid _ := hX3
  have HA3 : Hid (Acc w3 base v3 X3) := by
    show Acc _ _ _ _
    rw [hX3]; exact HO2.out
  have HTY3 : Hid (TyAt n (fun k => k < base) w3 t na nl nc ka kl kc) := (H.out.old (below_one _ _)).on HO3.out.grown HLT.out
  have HT3 : Hid (Tab w3) := (HT.out.old (below_one _ _)).on HO3.out.grown HLT.out hb0
  clear HO2 hg2 hm2 hX3 hc0 HP HA2 hB2
  go_wp2_with fail
  refine (putText_any HA3.out (by omega) (by have := HBD.out; have := HX3l.out; omega) t.name HSP.out.2 HR.out).mono ?_
  rintro e w4 ⟨v4, rfl, HO4⟩
  have HON : Hid (On base w v acc (cat (putL t.id 2, 0) R) w4 v4) := (HO3.out.then rfl (HX3.out ▸ HO4)).box
  go_wp2_with fail
  go_ret2
  exact ⟨v4, rfl, HON⟩

set_option maxHeartbeats 1000000 in
theorem putType_udt (n : Nat) (ih : ∀ m, n = m + 1 → PutsTy m) {base : Nat} {w : World} {v : Value} {acc : List Int} {t : Ty} {na : Option Addr} {nc : Nat} {ka : Option Addr} {kl kc : Nat} (ha : Acc w base v acc) (hb0 : 0 < base) (hb : base ≤ w.heap.size)
    (h : TyAt n (fun k => k < base) w t na kl nc ka kl kc) (hT : Tab w) (hbd : acc.length + wgt (n + 1) t ≤ 140737488355328) (hh : hasB t.id t.kids.length t.names.length = true) (q0 : (t.id == 0) = false) (q1 : (t.id == 48) = true) {R : List Int × Int} (hR : R = cat (textB t.space) (cat (textB t.name) (cat (countB t.kids.length) (goB (fieldB (tyB n)) (t.names.zip t.kids))))) :
    Calls Tryd.prog 89 #[v, .agg #[.int .u16 t.id, .string t.space, .string t.name, .slice na kl nc, .slice ka kl kc]] w fun e w' => ∃ v', e = .returned (.tuple #[v', .int .i64 R.2]) ∧ Hid (On base w v acc (cat (putL t.id 2, 0) R) w' v') := by
  have hid := h.idr
  have HA : Hid (Acc w base v acc) := ha
  have H : Hid (TyAt n (fun k => k < base) w t na kl nc ka kl kc) := h
  have HT : Hid (Tab w) := hT
  have HH : Hid _ := hh
  have HR : Hid _ := hR
  have HSP : Hid (t.space.size ≤ maxLen ∧ t.name.size ≤ maxLen) := ⟨h.2.1, h.2.2.1⟩
  have HBD : Hid (acc.length + (131078 + 65537 * t.names.length + (t.kids.map (wgt n)).sum) ≤ 140737488355328) := hbd
  have HLT : Hid (∀ j, v.ownBlock = some j → base ≤ j) := fun j hj => (HA.out.lt j hj).1
  clear ha h hT hh hbd hR
  go_enter Tryd.func89, Tryd.ntmps89
  go_wp2_with fail
  refine (has_any (H.out.old (below_one _ _)) (HT.out.old (below_one _ _)) HH.out.symm).mono ?_
  rintro e w1 ⟨rfl, hBa⟩
  have hc0 : w1.cell? ⟨w.heap.size, 0, .none⟩ = some (.int .u16 t.id) := (hBa.cell (by simp)).trans (cell_box _ _ _ _ _ rfl)
  have hsz1 := hBa.size
  simp at hsz1
  go_wp2_with fail
  refine (put_own t.id 2 _ (by omega) (by omega) (by omega) _ rfl).mono ?_
  rintro e w2 ⟨v2, rfl, ho, hBb⟩
  obtain ⟨a2, cp2, rfl, hp2⟩ := isB_own ho (putL_range _ _)
  have HP : Hid (IsB _ _ _ _ _) := hp2
  have hB2 := hBa.trans (hBb.mono hBa.size)
  have hsz2 := hBb.size
  have HA2 : Hid (Acc w2 base v acc) := (HA.out.grown (below_one _ _)).grown hB2
  clear ho hp2 hBa hBb
  go_wp2_with (at_builtin; refine wpList_append_on rfl (.tmp 9) (.tmp 13) rfl rfl HA2.out rfl HP.out (by have := HBD.out; omega) (by omega) ?_)
  intro v3 w3 HO2 hg2 hm2
  have HO3 : Hid (On base (w.alloc (.cells #[.int .u16 t.id, .string t.space, .string t.name, .slice na kl nc, .slice ka kl kc] 62)) v acc (putL t.id 2, 0) w3 v3) :=
    ⟨(below_grownBy hB2 _).trans hg2, fun _ => ⟨HO2.out, (Moved.refl _ v).trans hm2 hB2.size⟩, fun hx => absurd rfl hx⟩
  have d0 : w3.cell? ⟨w.heap.size, 0, .none⟩ = some (.int .u16 t.id) := (HO3.out.boxed HA.out 0).trans (cell_box _ _ _ _ _ rfl)
  have d1 : w3.cell? ⟨w.heap.size, 1, .none⟩ = some (.string t.space) := (HO3.out.boxed HA.out 1).trans (cell_box _ _ _ _ _ rfl)
  have d2 : w3.cell? ⟨w.heap.size, 2, .none⟩ = some (.string t.name) := (HO3.out.boxed HA.out 2).trans (cell_box _ _ _ _ _ rfl)
  have d3 : w3.cell? ⟨w.heap.size, 3, .none⟩ = some (.slice na kl nc) := (HO3.out.boxed HA.out 3).trans (cell_box _ _ _ _ _ rfl)
  have d4 : w3.cell? ⟨w.heap.size, 4, .none⟩ = some (.slice ka kl kc) := (HO3.out.boxed HA.out 4).trans (cell_box _ _ _ _ _ rfl)
  have hsz3 := HO3.out.grown.size
  simp at hsz3
  obtain ⟨X3, hX3⟩ : ∃ X3, X3 = acc ++ putL t.id 2 := ⟨_, rfl⟩
  have HX3l : Hid (X3.length = acc.length + 2) := by show _ = _; rw [hX3, List.length_append, putL_length]
  have HX3 : Hid _ := hX3
  have HA3 : Hid (Acc w3 base v3 X3) := by
    show Acc _ _ _ _
    rw [hX3]; exact HO2.out
  have HTY3 : Hid (TyAt n (fun k => k < base) w3 t na kl nc ka kl kc) := (H.out.old (below_one _ _)).on HO3.out.grown HLT.out
  have HT3 : Hid (Tab w3) := (HT.out.old (below_one _ _)).on HO3.out.grown HLT.out hb0
  clear HO2 hg2 hm2 hX3 hc0 HP HA2 hB2
  go_wp2_with fail
  refine (putUdt_any n ih HA3.out hb0 (by omega) HTY3.out HT3.out (by have := HBD.out; have := HX3l.out; omega) HR.out).mono ?_
  rintro e w4 ⟨v4, rfl, HO4⟩
  have HON : Hid (On base w v acc (cat (putL t.id 2, 0) R) w4 v4) := (HO3.out.then rfl (HX3.out ▸ HO4)).box
  go_wp2_with fail
  go_ret2
  exact ⟨v4, rfl, HON⟩

set_option maxHeartbeats 1000000 in
theorem putType_tuple (n : Nat) (ih : ∀ m, n = m + 1 → PutsTy m) {base : Nat} {w : World} {v : Value} {acc : List Int} {t : Ty} {na : Option Addr} {nl nc : Nat} {ka : Option Addr} {kl kc : Nat} (ha : Acc w base v acc) (hb0 : 0 < base) (hb : base ≤ w.heap.size)
    (h : TyAt n (fun k => k < base) w t na nl nc ka kl kc) (hT : Tab w) (hbd : acc.length + wgt (n + 1) t ≤ 140737488355328) (hh : hasB t.id t.kids.length t.names.length = true) (q0 : (t.id == 0) = false) (q1 : (t.id == 48) = false) (q2 : (t.id == 49) = true) {R : List Int × Int} (hR : R = cat (countB t.kids.length) (goB (tyB n) t.kids)) :
    Calls Tryd.prog 89 #[v, .agg #[.int .u16 t.id, .string t.space, .string t.name, .slice na nl nc, .slice ka kl kc]] w fun e w' => ∃ v', e = .returned (.tuple #[v', .int .i64 R.2]) ∧ Hid (On base w v acc (cat (putL t.id 2, 0) R) w' v') := by
  have hid := h.idr
  have HA : Hid (Acc w base v acc) := ha
  have H : Hid (TyAt n (fun k => k < base) w t na nl nc ka kl kc) := h
  have HT : Hid (Tab w) := hT
  have HH : Hid _ := hh
  have HR : Hid _ := hR
  have HSP : Hid (t.space.size ≤ maxLen ∧ t.name.size ≤ maxLen) := ⟨h.2.1, h.2.2.1⟩
  have HBD : Hid (acc.length + (131078 + 65537 * t.names.length + (t.kids.map (wgt n)).sum) ≤ 140737488355328) := hbd
  have HLT : Hid (∀ j, v.ownBlock = some j → base ≤ j) := fun j hj => (HA.out.lt j hj).1
  clear ha h hT hh hbd hR
  go_enter Tryd.func89, Tryd.ntmps89
  go_wp2_with fail
  refine (has_any (H.out.old (below_one _ _)) (HT.out.old (below_one _ _)) HH.out.symm).mono ?_
  rintro e w1 ⟨rfl, hBa⟩
  have hc0 : w1.cell? ⟨w.heap.size, 0, .none⟩ = some (.int .u16 t.id) := (hBa.cell (by simp)).trans (cell_box _ _ _ _ _ rfl)
  have hsz1 := hBa.size
  simp at hsz1
  go_wp2_with fail
  refine (put_own t.id 2 _ (by omega) (by omega) (by omega) _ rfl).mono ?_
  rintro e w2 ⟨v2, rfl, ho, hBb⟩
  obtain ⟨a2, cp2, rfl, hp2⟩ := isB_own ho (putL_range _ _)
  have HP : Hid (IsB _ _ _ _ _) := hp2
  have hB2 := hBa.trans (hBb.mono hBa.size)
  have hsz2 := hBb.size
  have HA2 : Hid (Acc w2 base v acc) := (HA.out.grown (below_one _ _)).grown hB2
  clear ho hp2 hBa hBb
  go_wp2_with (at_builtin; refine wpList_append_on rfl (.tmp 9) (.tmp 13) rfl rfl HA2.out rfl HP.out (by have := HBD.out; omega) (by omega) ?_)
  intro v3 w3 HO2 hg2 hm2
  have HO3 : Hid (On base (w.alloc (.cells #[.int .u16 t.id, .string t.space, .string t.name, .slice na nl nc, .slice ka kl kc] 62)) v acc (putL t.id 2, 0) w3 v3) :=
    ⟨(below_grownBy hB2 _).trans hg2, fun _ => ⟨HO2.out, (Moved.refl _ v).trans hm2 hB2.size⟩, fun hx => absurd rfl hx⟩
  have d0 : w3.cell? ⟨w.heap.size, 0, .none⟩ = some (.int .u16 t.id) := (HO3.out.boxed HA.out 0).trans (cell_box _ _ _ _ _ rfl)
  have d1 : w3.cell? ⟨w.heap.size, 1, .none⟩ = some (.string t.space) := (HO3.out.boxed HA.out 1).trans (cell_box _ _ _ _ _ rfl)
  have d2 : w3.cell? ⟨w.heap.size, 2, .none⟩ = some (.string t.name) := (HO3.out.boxed HA.out 2).trans (cell_box _ _ _ _ _ rfl)
  have d3 : w3.cell? ⟨w.heap.size, 3, .none⟩ = some (.slice na nl nc) := (HO3.out.boxed HA.out 3).trans (cell_box _ _ _ _ _ rfl)
  have d4 : w3.cell? ⟨w.heap.size, 4, .none⟩ = some (.slice ka kl kc) := (HO3.out.boxed HA.out 4).trans (cell_box _ _ _ _ _ rfl)
  have hsz3 := HO3.out.grown.size
  simp at hsz3
  obtain ⟨X3, hX3⟩ : ∃ X3, X3 = acc ++ putL t.id 2 := ⟨_, rfl⟩
  have HX3l : Hid (X3.length = acc.length + 2) := by show _ = _; rw [hX3, List.length_append, putL_length]
  have HX3 : Hid _ := hX3
  have HA3 : Hid (Acc w3 base v3 X3) := by
    show Acc _ _ _ _
    rw [hX3]; exact HO2.out
  have HTY3 : Hid (TyAt n (fun k => k < base) w3 t na nl nc ka kl kc) := (H.out.old (below_one _ _)).on HO3.out.grown HLT.out
  have HT3 : Hid (Tab w3) := (HT.out.old (below_one _ _)).on HO3.out.grown HLT.out hb0
  clear HO2 hg2 hm2 hX3 hc0 HP HA2 hB2
  go_wp2_with fail
  refine (putTuple_any n ih HA3.out hb0 (by omega) HTY3.out HT3.out (by have := HBD.out; have := HX3l.out; omega) HR.out).mono ?_
  rintro e w4 ⟨v4, rfl, HO4⟩
  have HON : Hid (On base w v acc (cat (putL t.id 2, 0) R) w4 v4) := (HO3.out.then rfl (HX3.out ▸ HO4)).box
  go_wp2_with fail
  go_ret2
  exact ⟨v4, rfl, HON⟩

set_option maxHeartbeats 1000000 in
theorem putType_else (n : Nat) (ih : ∀ m, n = m + 1 → PutsTy m) {base : Nat} {w : World} {v : Value} {acc : List Int} {t : Ty} {na : Option Addr} {nl nc : Nat} {ka : Option Addr} {kl kc : Nat} (ha : Acc w base v acc) (hb0 : 0 < base) (hb : base ≤ w.heap.size)
    (h : TyAt n (fun k => k < base) w t na nl nc ka kl kc) (hT : Tab w) (hbd : acc.length + wgt (n + 1) t ≤ 140737488355328) (hh : hasB t.id t.kids.length t.names.length = true) (q0 : (t.id == 0) = false) (q1 : (t.id == 48) = false) (q2 : (t.id == 49) = false) {R : List Int × Int} (hR : R = goB (tyB n) t.kids) :
    Calls Tryd.prog 89 #[v, .agg #[.int .u16 t.id, .string t.space, .string t.name, .slice na nl nc, .slice ka kl kc]] w fun e w' => ∃ v', e = .returned (.tuple #[v', .int .i64 R.2]) ∧ Hid (On base w v acc (cat (putL t.id 2, 0) R) w' v') := by
  have hid := h.idr
  have HA : Hid (Acc w base v acc) := ha
  have H : Hid (TyAt n (fun k => k < base) w t na nl nc ka kl kc) := h
  have HT : Hid (Tab w) := hT
  have HH : Hid _ := hh
  have HR : Hid _ := hR
  have HSP : Hid (t.space.size ≤ maxLen ∧ t.name.size ≤ maxLen) := ⟨h.2.1, h.2.2.1⟩
  have HBD : Hid (acc.length + (131078 + 65537 * t.names.length + (t.kids.map (wgt n)).sum) ≤ 140737488355328) := hbd
  have HLT : Hid (∀ j, v.ownBlock = some j → base ≤ j) := fun j hj => (HA.out.lt j hj).1
  clear ha h hT hh hbd hR
  go_enter Tryd.func89, Tryd.ntmps89
  go_wp2_with fail
  refine (has_any (H.out.old (below_one _ _)) (HT.out.old (below_one _ _)) HH.out.symm).mono ?_
  rintro e w1 ⟨rfl, hBa⟩
  have hc0 : w1.cell? ⟨w.heap.size, 0, .none⟩ = some (.int .u16 t.id) := (hBa.cell (by simp)).trans (cell_box _ _ _ _ _ rfl)
  have hsz1 := hBa.size
  simp at hsz1
  go_wp2_with fail
  refine (put_own t.id 2 _ (by omega) (by omega) (by omega) _ rfl).mono ?_
  rintro e w2 ⟨v2, rfl, ho, hBb⟩
  obtain ⟨a2, cp2, rfl, hp2⟩ := isB_own ho (putL_range _ _)
  have HP : Hid (IsB _ _ _ _ _) := hp2
  have hB2 := hBa.trans (hBb.mono hBa.size)
  have hsz2 := hBb.size
  have HA2 : Hid (Acc w2 base v acc) := (HA.out.grown (below_one _ _)).grown hB2
  clear ho hp2 hBa hBb
  go_wp2_with (at_builtin; refine wpList_append_on rfl (.tmp 9) (.tmp 13) rfl rfl HA2.out rfl HP.out (by have := HBD.out; omega) (by omega) ?_)
  intro v3 w3 HO2 hg2 hm2
  have HO3 : Hid (On base (w.alloc (.cells #[.int .u16 t.id, .string t.space, .string t.name, .slice na nl nc, .slice ka kl kc] 62)) v acc (putL t.id 2, 0) w3 v3) :=
    ⟨(below_grownBy hB2 _).trans hg2, fun _ => ⟨HO2.out, (Moved.refl _ v).trans hm2 hB2.size⟩, fun hx => absurd rfl hx⟩
  have d0 : w3.cell? ⟨w.heap.size, 0, .none⟩ = some (.int .u16 t.id) := (HO3.out.boxed HA.out 0).trans (cell_box _ _ _ _ _ rfl)
  have d4 : w3.cell? ⟨w.heap.size, 4, .none⟩ = some (.slice ka kl kc) := (HO3.out.boxed HA.out 4).trans (cell_box _ _ _ _ _ rfl)
  have hsz3 := HO3.out.grown.size
  simp at hsz3
  obtain ⟨X3, hX3⟩ : ∃ X3, X3 = acc ++ putL t.id 2 := ⟨_, rfl⟩
  have HX3l : Hid (X3.length = acc.length + 2) := by show _ = _; rw [hX3, List.length_append, putL_length]
  have HX3 : Hid _ := hX3
  have HA3 : Hid (Acc w3 base v3 X3) := by
    show Acc _ _ _ _
    rw [hX3]; exact HO2.out
  have HTY3 : Hid (TyAt n (fun k => k < base) w3 t na nl nc ka kl kc) := (H.out.old (below_one _ _)).on HO3.out.grown HLT.out
  have HT3 : Hid (Tab w3) := (HT.out.old (below_one _ _)).on HO3.out.grown HLT.out hb0
  clear HO2 hg2 hm2 hX3 hc0 HP HA2 hB2
  go_wp2_with fail
  refine (putKids_any n ih HA3.out hb0 (by omega) HTY3.out HT3.out (by have := HBD.out; have := HX3l.out; omega) HR.out).mono ?_
  rintro e w4 ⟨v4, rfl, HO4⟩
  have HON : Hid (On base w v acc (cat (putL t.id 2, 0) R) w4 v4) := (HO3.out.then rfl (HX3.out ▸ HO4)).box
  go_wp2_with fail
  go_ret2
  exact ⟨v4, rfl, HON⟩

theorem putType_step (n : Nat) (ih : ∀ m, n = m + 1 → PutsTy m) : PutsTy n := by
  intro base w v acc t na nl nc ka kl kc ha hb0 hb h hT hbd B hB
  by_cases hh : hasB t.id t.kids.length t.names.length = false
  · rw [tyB, if_pos hh] at hB
    subst hB
    refine (putType_no n h hT hh).mono ?_
    rintro e w' ⟨rfl, hBl⟩
    exact ⟨_, rfl, below_grownBy hBl _, fun hx => absurd hx (by decide : (1 : Int) ≠ 0), fun _ => rfl⟩
  · have hh' : hasB t.id t.kids.length t.names.length = true := by simpa using hh
    rw [tyB, if_neg hh] at hB
    have fin : ∀ R : List Int × Int, B = cat (putL t.id 2, 0) R → (Calls Tryd.prog 89 #[v, .agg #[.int .u16 t.id, .string t.space, .string t.name, .slice na nl nc, .slice ka kl kc]] w fun e w' => ∃ v', e = .returned (.tuple #[v', .int .i64 R.2]) ∧ Hid (On base w v acc (cat (putL t.id 2, 0) R) w' v')) →
        Calls Tryd.prog 89 #[v, .agg #[.int .u16 t.id, .string t.space, .string t.name, .slice na nl nc, .slice ka kl kc]] w fun e w' => ∃ v', e = .returned (.tuple #[v', .int .i64 B.2]) ∧ Hid (On base w v acc B w' v') := by
      intro R hR hc
      refine hc.mono ?_
      rintro e w' ⟨v', rfl, hO⟩
      exact ⟨v', by rw [hR, cat_err (by rfl)], by rw [hR]; exact hO⟩
    by_cases h0 : t.id = 0
    · rw [if_pos h0] at hB
      exact fin _ hB (putType_custom n ih ha hb0 hb h hT hbd hh' (by simp [h0]) rfl)
    · have q0 : (t.id == 0) = false := by simpa using h0
      rw [if_neg h0] at hB
      by_cases h1 : t.id = 48
      · rw [if_pos h1] at hB
        have hnk : nl = kl := by
          rw [hasB, if_neg h0, if_neg (by omega), if_neg (by omega), if_pos h1] at hh'
          have := of_decide_eq_true hh'
          rw [h.kl_eq, h.nl_eq] at this
          exact this.symm
        subst hnk
        exact fin _ hB (putType_udt n ih ha hb0 hb h hT hbd hh' q0 (by simp [h1]) rfl)
      · have q1 : (t.id == 48) = false := by simpa using h1
        rw [if_neg h1] at hB
        by_cases h2 : t.id = 49
        · rw [if_pos h2] at hB
          exact fin _ hB (putType_tuple n ih ha hb0 hb h hT hbd hh' q0 q1 (by simp [h2]) rfl)
        · have q2 : (t.id == 49) = false := by simpa using h2
          rw [if_neg h2] at hB
          exact fin _ hB (putType_else n ih ha hb0 hb h hT hbd hh' q0 q1 q2 rfl)

theorem putType_any (n : Nat) : PutsTy n := by
  induction n with
  | zero => exact putType_step 0 (fun m hm => by omega)
  | succ n ih => exact putType_step (n + 1) (fun m hm => (Nat.succ.inj hm) ▸ ih)

/-- Put. -/
def putR (n : Nat) (t : Ty) : List Int × Int := if deepB 20 t = true then ([], 13) else tyB (n + 1) t

set_option maxHeartbeats 1000000 in
theorem Put_any {n : Nat} {F : Nat → Prop} {w : World} {t : Ty} {na : Option Addr} {nl nc : Nat} {ka : Option Addr} {kl kc : Nat} (h : TyAt n F w t na nl nc ka kl kc) (hT : Tab w) (hbd : wgt (n + 1) t ≤ 140737488355328) {B : List Int × Int} (hB : B = putR n t) :
    Calls Tryd.prog 83 #[.agg #[.int .u16 t.id, .string t.space, .string t.name, .slice na nl nc, .slice ka kl kc]] w fun e w' => ∃ v, e = .returned (.tuple #[v, .int .i64 B.2]) ∧ Hid (Acc w' w.heap.size v B.1) ∧ Below w.heap.size w w' := by
  have H : Hid (TyAt n (fun k => k < w.heap.size) w t na nl nc ka kl kc) := h.mono (fun k hk _ => ⟨hk, rfl⟩) (Nat.le_refl _)
  have HT : Hid (Tab w) := hT
  have HBD : Hid _ := hbd
  have HB : Hid _ := hB
  obtain ⟨d, hd⟩ : ∃ d, d = deepB 20 t := ⟨_, rfl⟩
  have HD : Hid _ := hd
  clear h hT hB hd hbd
  go_enter Tryd.func83, Tryd.ntmps83
  go_wp2_with fail
  refine (isDeeper_any _ 20 (by omega) n _ t na nl nc ka kl kc (H.out.old (below_one _ _)) d HD.out 20 rfl).mono ?_
  rintro e w1 ⟨rfl, hB1⟩
  have hBw : Below w.heap.size w w1 := (below_one _ _).trans (hB1.mono (by simp))
  cases d with
  | true =>
    have HE : Hid (B = ([], 13)) := by show _ = _; rw [HB.out, putR, if_pos HD.out.symm]
    go_wp2_with fail
    go_ret2
    exact ⟨_, by rw [HE.out]; rfl, by rw [HE.out]; exact acc_nil _ _, hBw⟩
  | false =>
    have HE : Hid (B = tyB (n + 1) t) := by show _ = _; rw [HB.out, putR, if_neg (by rw [← HD.out]; decide)]
    have d0 : w1.cell? ⟨w.heap.size, 0, .none⟩ = some (.int .u16 t.id) := (hB1.cell (by simp)).trans (cell_box _ _ _ _ _ rfl)
    have d1 : w1.cell? ⟨w.heap.size, 1, .none⟩ = some (.string t.space) := (hB1.cell (by simp)).trans (cell_box _ _ _ _ _ rfl)
    have d2 : w1.cell? ⟨w.heap.size, 2, .none⟩ = some (.string t.name) := (hB1.cell (by simp)).trans (cell_box _ _ _ _ _ rfl)
    have d3 : w1.cell? ⟨w.heap.size, 3, .none⟩ = some (.slice na nl nc) := (hB1.cell (by simp)).trans (cell_box _ _ _ _ _ rfl)
    have d4 : w1.cell? ⟨w.heap.size, 4, .none⟩ = some (.slice ka kl kc) := (hB1.cell (by simp)).trans (cell_box _ _ _ _ _ rfl)
    have hs1 := hBw.size
    have hlt := HT.out.lt
    go_wp2_with fail
    refine (putType_any n w.heap.size w1 (.slice none 0 0) [] t na nl nc ka kl kc (acc_nil _ _) hlt hs1 (H.out.old hBw) (HT.out.old hBw) (by have := HBD.out; simp only [List.length_nil]; omega) B HE.out).mono ?_
    rintro e w2 ⟨v2, rfl, HO⟩
    have hB2 : Below w.heap.size w w2 := hBw.grown HO.out.grown hs1 (fun k hk => by simp [Value.ownBlock] at hk)
    have HA : Hid (Acc w2 w.heap.size v2 B.1) := by
      show Acc _ _ _ _
      by_cases he : B.2 = 0
      · have := (HO.out.ok he).1
        rw [List.nil_append] at this
        exact this
      · rw [HO.out.no he]
        have : B.1 = [] := by
          have h2 := HE.out
          rw [tyB] at h2
          split at h2
          · rw [h2]
          · rw [h2] at he ⊢; exact cat_pure he
        rw [this]
        exact acc_nil _ _
    go_wp2_with fail
    go_ret2
    exact ⟨v2, rfl, HA, hB2⟩
end Go.Proofs.YtnapeecmlkkolaaDoor
