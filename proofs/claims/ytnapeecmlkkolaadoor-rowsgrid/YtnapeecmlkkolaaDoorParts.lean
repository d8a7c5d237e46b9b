/-
  The table of names, and the contracts of isPlain, hasItsParts and mayBe.
-/
import Derived.Test.YtnapeecmlkkolaaDoorTree
namespace Go.Proofs.YtnapeecmlkkolaaDoor
open Go.RowKit
set_option linter.unusedVariables false
set_option linter.unusedSimpArgs false

/-- The plain types' names. -/
def plainTab : List ByteArray := [⟨#[]⟩, ⟨#[97, 115, 99, 105, 105]⟩, ⟨#[98, 105, 103, 105, 110, 116]⟩, ⟨#[98, 108, 111, 98]⟩, ⟨#[98, 111, 111, 108, 101, 97, 110]⟩, ⟨#[99, 111, 117, 110, 116, 101, 114]⟩, ⟨#[100, 101, 99, 105, 109, 97, 108]⟩, ⟨#[100, 111, 117, 98, 108, 101]⟩, ⟨#[102, 108, 111, 97, 116]⟩, ⟨#[105, 110, 116]⟩, ⟨#[]⟩,
  ⟨#[116, 105, 109, 101, 115, 116, 97, 109, 112]⟩, ⟨#[117, 117, 105, 100]⟩, ⟨#[118, 97, 114, 99, 104, 97, 114]⟩, ⟨#[118, 97, 114, 105, 110, 116]⟩, ⟨#[116, 105, 109, 101, 117, 117, 105, 100]⟩, ⟨#[105, 110, 101, 116]⟩, ⟨#[100, 97, 116, 101]⟩, ⟨#[116, 105, 109, 101]⟩, ⟨#[115, 109, 97, 108, 108, 105, 110, 116]⟩, ⟨#[116, 105, 110, 121, 105, 110, 116]⟩]

def plainAt (i : Nat) : ByteArray := plainTab.getD i ⟨#[]⟩

/-- The program's table lies in its block. -/
structure Tab (w : World) : Prop where
  cell : ∀ i, i < 21 → w.cell? ⟨0, i, none⟩ = some (.string (plainAt i))
  lt : 0 < w.heap.size

theorem Tab.below {w W : World} {base : Nat} (h : Tab w) (hB : Below base w W) (hb : 0 < base) : Tab W := ⟨fun i hi => (hB.cell (p := ⟨0, i, none⟩) hb).trans (h.cell i hi), Nat.lt_of_lt_of_le h.lt hB.size⟩
theorem Tab.old {w W : World} (h : Tab w) (hB : Below w.heap.size w W) : Tab W := h.below hB h.lt

def plainB (id : Int) : Bool := decide (1 ≤ id) && decide (id ≤ 20) && !decide (id = 10)

theorem plain_tab : ∀ i : Fin 21, (!(plainAt i.val).toList.isEmpty) = plainB i.val := by decide +kernel

set_option maxHeartbeats 400000 in
theorem isPlain_no (w : World) (id : Int) (h : 21 ≤ id) (h2 : id < 65536) : Calls Tryd.prog 93 #[.int .u16 id] w fun e w' => e = .returned (.bool false) ∧ w' = w := by
  go_enter Tryd.func93, Tryd.ntmps93
  go_wp2_with fail
  go_ret
  exact ⟨rfl, rfl⟩

set_option maxHeartbeats 400000 in
theorem isPlain_yes (w : World) (hT : Tab w) (i : Nat) (h : i < 21) : Calls Tryd.prog 93 #[.int .u16 i] w fun e w' => e = .returned (.bool (plainB i)) ∧ w' = w := by
  have hc := hT.cell i h
  have HP : Hid _ := plain_tab ⟨i, h⟩
  generalize plainAt i = s at *
  clear hT
  go_enter Tryd.func93, Tryd.ntmps93
  go_wp2_with fail
  go_ret
  exact ⟨by rw [← HP.out]; rfl, rfl⟩

theorem isPlain_any (w : World) (hT : Tab w) (id : Int) (h0 : 0 ≤ id) (h2 : id < 65536) {d : Bool} (hd : d = plainB id) : Calls Tryd.prog 93 #[.int .u16 id] w fun e w' => e = .returned (.bool d) ∧ w' = w := by
  subst hd
  by_cases h : 21 ≤ id
  · have : plainB id = false := by simp [plainB]; omega
    rw [this]
    exact isPlain_no w id h h2
  · obtain ⟨i, rfl⟩ := Int.eq_ofNat_of_zero_le h0
    exact isPlain_yes w hT i (by omega)

/-- There is such an Id, and there are just so many kids and names. -/
def hasB (id : Int) (kids names : Nat) : Bool :=
  if id = 0 then decide (kids = 0) && decide (names = 0) else if id = 32 ∨ id = 34 then decide (kids = 1) && decide (names = 0) else if id = 33 then decide (kids = 2) && decide (names = 0)
  else if id = 48 then decide (kids = names) else if id = 49 then decide (names = 0) else plainB id && decide (kids = 0) && decide (names = 0)

theorem eq_i (a : Nat) (b : Nat) : ((a : Int) == (b : Int)) = decide (a = b) := by
  by_cases h : a = b
  · simp [h]
  · rw [decide_eq_false h]; exact beq_eq_false_iff_ne.2 (by omega)
theorem eq_0 (a : Nat) : ((a : Int) == 0) = decide (a = 0) := eq_i a 0

set_option maxHeartbeats 1000000 in
theorem has_custom (w : World) (sp nm : ByteArray) (na : Option Addr) (nl nc : Nat) (ka : Option Addr) (kl kc : Nat) (hk : kl ≤ maxLen) (hn : nl ≤ maxLen) :
    Calls Tryd.prog 94 #[.agg #[.int .u16 0, .string sp, .string nm, .slice na nl nc, .slice ka kl kc]] w fun e w' => e = .returned (.bool (hasB 0 kl nl)) ∧ Below w.heap.size w w' := by
  unfold maxLen at hk hn
  by_cases h : kl = 0
  · subst h
    go_enter Tryd.func94, Tryd.ntmps94
    go_wp2_with fail
    go_quiet (fail)
    go_wp2_with fail
    go_ret
    exact ⟨by simp [hasB, eq_0], below_drewN (below_one _ _) _⟩
  · have t : ((kl : Int) == 0) = false := by rw [show ((0 : Int)) = ((0 : Nat) : Int) from rfl, eq_i]; exact decide_eq_false h
    go_enter Tryd.func94, Tryd.ntmps94
    go_wp2_with fail
    go_quiet (fail)
    go_wp2_with fail
    go_ret
    exact ⟨by simp [hasB, h], below_drewN (below_one _ _) _⟩

set_option maxHeartbeats 1000000 in
theorem has_list (w : World) (sp nm : ByteArray) (na : Option Addr) (nl nc : Nat) (ka : Option Addr) (kl kc : Nat) (hk : kl ≤ maxLen) (hn : nl ≤ maxLen) :
    Calls Tryd.prog 94 #[.agg #[.int .u16 32, .string sp, .string nm, .slice na nl nc, .slice ka kl kc]] w fun e w' => e = .returned (.bool (hasB 32 kl nl)) ∧ Below w.heap.size w w' := by
  unfold maxLen at hk hn
  by_cases h : kl = 1
  · subst h
    go_enter Tryd.func94, Tryd.ntmps94
    go_wp2_with fail
    go_quiet (fail)
    go_wp2_with fail
    go_ret
    exact ⟨by simp [hasB, eq_0], below_drewN (below_one _ _) _⟩
  · have t : ((kl : Int) == 1) = false := by rw [show ((1 : Int)) = ((1 : Nat) : Int) from rfl, eq_i]; exact decide_eq_false h
    go_enter Tryd.func94, Tryd.ntmps94
    go_wp2_with fail
    go_quiet (fail)
    go_wp2_with fail
    go_ret
    exact ⟨by simp [hasB, h], below_drewN (below_one _ _) _⟩

set_option maxHeartbeats 1000000 in
theorem has_set (w : World) (sp nm : ByteArray) (na : Option Addr) (nl nc : Nat) (ka : Option Addr) (kl kc : Nat) (hk : kl ≤ maxLen) (hn : nl ≤ maxLen) :
    Calls Tryd.prog 94 #[.agg #[.int .u16 34, .string sp, .string nm, .slice na nl nc, .slice ka kl kc]] w fun e w' => e = .returned (.bool (hasB 34 kl nl)) ∧ Below w.heap.size w w' := by
  unfold maxLen at hk hn
  by_cases h : kl = 1
  · subst h
    go_enter Tryd.func94, Tryd.ntmps94
    go_wp2_with fail
    go_quiet (fail)
    go_wp2_with fail
    go_ret
    exact ⟨by simp [hasB, eq_0], below_drewN (below_one _ _) _⟩
  · have t : ((kl : Int) == 1) = false := by rw [show ((1 : Int)) = ((1 : Nat) : Int) from rfl, eq_i]; exact decide_eq_false h
    go_enter Tryd.func94, Tryd.ntmps94
    go_wp2_with fail
    go_quiet (fail)
    go_wp2_with fail
    go_ret
    exact ⟨by simp [hasB, h], below_drewN (below_one _ _) _⟩

set_option maxHeartbeats 1000000 in
theorem has_map (w : World) (sp nm : ByteArray) (na : Option Addr) (nl nc : Nat) (ka : Option Addr) (kl kc : Nat) (hk : kl ≤ maxLen) (hn : nl ≤ maxLen) :
    Calls Tryd.prog 94 #[.agg #[.int .u16 33, .string sp, .string nm, .slice na nl nc, .slice ka kl kc]] w fun e w' => e = .returned (.bool (hasB 33 kl nl)) ∧ Below w.heap.size w w' := by
  unfold maxLen at hk hn
  by_cases h : kl = 2
  · subst h
    go_enter Tryd.func94, Tryd.ntmps94
    go_wp2_with fail
    go_quiet (fail)
    go_wp2_with fail
    go_ret
    exact ⟨by simp [hasB, eq_0], below_drewN (below_one _ _) _⟩
  · have t : ((kl : Int) == 2) = false := by rw [show ((2 : Int)) = ((2 : Nat) : Int) from rfl, eq_i]; exact decide_eq_false h
    go_enter Tryd.func94, Tryd.ntmps94
    go_wp2_with fail
    go_quiet (fail)
    go_wp2_with fail
    go_ret
    exact ⟨by simp [hasB, h], below_drewN (below_one _ _) _⟩

set_option maxHeartbeats 1000000 in
theorem has_udt (w : World) (sp nm : ByteArray) (na : Option Addr) (nl nc : Nat) (ka : Option Addr) (kl kc : Nat) (hk : kl ≤ maxLen) (hn : nl ≤ maxLen) :
    Calls Tryd.prog 94 #[.agg #[.int .u16 48, .string sp, .string nm, .slice na nl nc, .slice ka kl kc]] w fun e w' => e = .returned (.bool (hasB 48 kl nl)) ∧ Below w.heap.size w w' := by
  unfold maxLen at hk hn
  go_enter Tryd.func94, Tryd.ntmps94
  go_wp2_with fail
  go_quiet (fail)
  go_wp2_with fail
  go_ret
  exact ⟨by simp [hasB, eq_i], below_drewN (below_one _ _) _⟩

set_option maxHeartbeats 1000000 in
theorem has_tuple (w : World) (sp nm : ByteArray) (na : Option Addr) (nl nc : Nat) (ka : Option Addr) (kl kc : Nat) (hk : kl ≤ maxLen) (hn : nl ≤ maxLen) :
    Calls Tryd.prog 94 #[.agg #[.int .u16 49, .string sp, .string nm, .slice na nl nc, .slice ka kl kc]] w fun e w' => e = .returned (.bool (hasB 49 kl nl)) ∧ Below w.heap.size w w' := by
  unfold maxLen at hk hn
  go_enter Tryd.func94, Tryd.ntmps94
  go_wp2_with fail
  go_quiet (fail)
  go_wp2_with fail
  go_ret
  exact ⟨by simp [hasB, eq_0], below_drewN (below_one _ _) _⟩

theorem hasB_else {id : Int} {kl nl : Nat} (h0 : id ≠ 0) (h1 : id ≠ 32) (h2 : id ≠ 33) (h3 : id ≠ 34) (h4 : id ≠ 48) (h5 : id ≠ 49) : hasB id kl nl = (plainB id && decide (kl = 0) && decide (nl = 0)) := by
  rw [hasB, if_neg h0, if_neg (by omega), if_neg h2, if_neg h4, if_neg h5]

set_option maxHeartbeats 1000000 in
theorem has_else (w : World) (sp nm : ByteArray) (na : Option Addr) (nl nc : Nat) (ka : Option Addr) (kl kc : Nat) (hk : kl ≤ maxLen) (hn : nl ≤ maxLen) (hT : Tab w) (id : Int) (hi : 0 ≤ id ∧ id < 65536) (h0 : id ≠ 0) (h1 : id ≠ 32) (h2 : id ≠ 33) (h3 : id ≠ 34) (h4 : id ≠ 48) (h5 : id ≠ 49) :
    Calls Tryd.prog 94 #[.agg #[.int .u16 id, .string sp, .string nm, .slice na nl nc, .slice ka kl kc]] w fun e w' => e = .returned (.bool (hasB id kl nl)) ∧ Below w.heap.size w w' := by
  unfold maxLen at hk hn
  have HH : Hid _ := hasB_else (kl := kl) (nl := nl) h0 h1 h2 h3 h4 h5
  have t0 : (id == 0) = false := by simpa using h0
  have t1 : (id == 32) = false := by simpa using h1
  have t2 : (id == 33) = false := by simpa using h2
  have t3 : (id == 34) = false := by simpa using h3
  have t4 : (id == 48) = false := by simpa using h4
  have t5 : (id == 49) = false := by simpa using h5
  clear h0 h1 h2 h3 h4 h5
  obtain ⟨p, hp⟩ : ∃ p, p = plainB id := ⟨_, rfl⟩
  have HP : Hid _ := hp
  have HT : Hid (Tab w) := hT
  clear hp hT
  go_enter Tryd.func94, Tryd.ntmps94
  go_wp2_with fail
  go_quiet (fail)
  cases p with
  | false =>
    go_wp2_with (go_at_call 93; refine (isPlain_any _ (HT.out.old (below_drewN (below_one _ _) _)) id hi.1 hi.2 HP.out).mono ?_; rintro e w1 ⟨rfl, rfl⟩)
    go_ret
    exact ⟨by rw [HH.out, ← HP.out]; rfl, below_drewN (below_one _ _) _⟩
  | true =>
    by_cases h : kl = 0
    · subst h
      go_wp2_with (go_at_call 93; refine (isPlain_any _ (HT.out.old (below_drewN (below_one _ _) _)) id hi.1 hi.2 HP.out).mono ?_; rintro e w1 ⟨rfl, rfl⟩)
      go_ret
      exact ⟨by rw [HH.out, ← HP.out]; simp [eq_0], below_drewN (below_one _ _) _⟩
    · have t : ((kl : Int) == 0) = false := by rw [eq_0]; exact decide_eq_false h
      go_wp2_with (go_at_call 93; refine (isPlain_any _ (HT.out.old (below_drewN (below_one _ _) _)) id hi.1 hi.2 HP.out).mono ?_; rintro e w1 ⟨rfl, rfl⟩)
      go_ret
      exact ⟨by rw [HH.out, ← HP.out]; simp [h], below_drewN (below_one _ _) _⟩

theorem has_any {n : Nat} {F : Nat → Prop} {w : World} {t : Ty} {na : Option Addr} {nl nc : Nat} {ka : Option Addr} {kl kc : Nat} (h : TyAt n F w t na nl nc ka kl kc) (hT : Tab w) {d : Bool} (hd : d = hasB t.id t.kids.length t.names.length) :
    Calls Tryd.prog 94 #[.agg #[.int .u16 t.id, .string t.space, .string t.name, .slice na nl nc, .slice ka kl kc]] w fun e w' => e = .returned (.bool d) ∧ Below w.heap.size w w' := by
  rw [h.kl_eq, h.nl_eq] at hd
  subst hd
  have hk := Nat.le_trans h.kl_le.1 h.kl_le.2
  have hn := Nat.le_trans h.nl_le.1 h.nl_le.2
  have hi := h.idr
  generalize t.id = id at *
  by_cases h0 : id = 0
  · subst h0; exact has_custom w _ _ _ _ _ _ _ _ hk hn
  by_cases h1 : id = 32
  · subst h1; exact has_list w _ _ _ _ _ _ _ _ hk hn
  by_cases h2 : id = 33
  · subst h2; exact has_map w _ _ _ _ _ _ _ _ hk hn
  by_cases h3 : id = 34
  · subst h3; exact has_set w _ _ _ _ _ _ _ _ hk hn
  by_cases h4 : id = 48
  · subst h4; exact has_udt w _ _ _ _ _ _ _ _ hk hn
  by_cases h5 : id = 49
  · subst h5; exact has_tuple w _ _ _ _ _ _ _ _ hk hn
  exact has_else w _ _ _ _ _ _ _ _ hk hn hT id hi h0 h1 h2 h3 h4 h5

/-- May a type be, with all that is within it? -/
def mayB : Nat → Ty → Bool
  | 0, _ => false
  | n + 1, t => hasB t.id t.kids.length t.names.length && t.kids.all (mayB n)

theorem all_step {p : Ty → Bool} {xs : List Ty} {k : Nat} {x : Ty} {r : Bool} (h : (xs.drop k).all p = r) (hx : xs[k]? = some x) (hp : p x = true) : (xs.drop (k + 1)).all p = r := by
  have hk := (List.getElem?_eq_some_iff.1 hx).1
  rw [List.drop_eq_getElem_cons hk, List.all_cons, (List.getElem?_eq_some_iff.1 hx).2, hp, Bool.true_and] at h
  exact h
theorem all_stop {p : Ty → Bool} {xs : List Ty} {k : Nat} {x : Ty} {r : Bool} (h : (xs.drop k).all p = r) (hx : xs[k]? = some x) (hp : p x = false) : r = false := by
  have hk := (List.getElem?_eq_some_iff.1 hx).1
  rw [List.drop_eq_getElem_cons hk, List.all_cons, (List.getElem?_eq_some_iff.1 hx).2, hp, Bool.false_and] at h
  exact h.symm
theorem all_end {p : Ty → Bool} {xs : List Ty} {k : Nat} {r : Bool} (h : (xs.drop k).all p = r) (hk : xs.length ≤ k) : r = true := by
  rw [List.drop_eq_nil_of_le hk, List.all_nil] at h
  exact h.symm

theorem TyAt.none {F : Nat → Prop} {w : World} {t : Ty} {na : Option Addr} {nl nc : Nat} {ka : Option Addr} {kl kc : Nat} (h : TyAt 0 F w t na nl nc ka kl kc) : kl = 0 := by
  obtain ⟨_, _, _, _, h1, _, _, _, h5⟩ := h
  apply Classical.byContradiction
  intro hlt
  obtain ⟨b, off, ha, hb, hFb, hc⟩ := h5 (by omega)
  obtain ⟨c, _, hf⟩ := hc 0 _ (List.getElem?_eq_getElem (by omega))
  exact hf
end Go.Proofs.YtnapeecmlkkolaaDoor
