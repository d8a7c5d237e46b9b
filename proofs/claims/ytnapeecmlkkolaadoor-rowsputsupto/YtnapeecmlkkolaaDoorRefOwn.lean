/-
  The document's own own and Depth.
-/
import Derived.Test.YtnapeecmlkkolaaDoorRefAt
import Derived.Test.YtnapeecmlkkolaaDoorAc
namespace Go.Proofs.YtnapeecmlkkolaaDoor
open Go.RowKit
set_option linter.unusedVariables false
set_option linter.unusedSimpArgs false

theorem own_cases (id : Int) (k n : Nat) : (manyI id = -2 ∧ hasB id k n = false) ∨ (∃ N : Nat, manyI id = N ∧ N ≤ 2 ∧ id ≠ 48 ∧ hasB id k n = (decide (k = N) && decide (n = 0))) ∨ id = 48 ∨ id = 49 := by
  by_cases e0 : id = 0
  · subst e0; exact .inr (.inl ⟨0, rfl, by omega, by decide, rfl⟩)
  · by_cases e32 : id = 32
    · subst e32; exact .inr (.inl ⟨1, rfl, by omega, by decide, rfl⟩)
    · by_cases e34 : id = 34
      · subst e34; exact .inr (.inl ⟨1, rfl, by omega, by decide, rfl⟩)
      · by_cases e33 : id = 33
        · subst e33; exact .inr (.inl ⟨2, rfl, by omega, by decide, rfl⟩)
        · by_cases e48 : id = 48
          · exact .inr (.inr (.inl e48))
          · by_cases e49 : id = 49
            · exact .inr (.inr (.inr e49))
            · have hh : hasB id k n = (plainB id && decide (k = 0) && decide (n = 0)) := by
                rw [hasB, if_neg e0, if_neg (by omega), if_neg e33, if_neg e48, if_neg e49]
              cases hp : plainB id with
              | true => exact .inr (.inl ⟨0, by rw [manyI, if_neg e0, if_pos hp]; rfl, by omega, e48, by rw [hh, hp, Bool.true_and]⟩)
              | false => exact .inl ⟨by rw [manyI, if_neg e0, if_neg (by rw [hp]; decide), if_neg e32, if_neg e34, if_neg e33, if_neg e48, if_neg e49], by rw [hh, hp, Bool.false_and, Bool.false_and]⟩

set_option maxHeartbeats 1000000 in
set_option maxRecDepth 20000 in
theorem own_any (w : World) (id : Int) (sp nm : ByteArray) (na : Option Addr) (nl nc : Nat) (ka : Option Addr) (kl kc : Nat) (h0 : 0 ≤ id) (h1 : id < 65536) (hk : kl ≤ maxLen) (hn : nl ≤ maxLen) {d : Bool} (hd : d = hasB id kl nl) :
    Calls Tryd.prog 84 #[.agg #[.int .u16 id, .string sp, .string nm, .slice na nl nc, .slice ka kl kc]] w fun e w' => e = .returned (.bool d) ∧ Below w.heap.size w w' := by
  unfold maxLen at hk hn
  obtain ⟨m, hm⟩ : ∃ m, m = manyI id := ⟨_, rfl⟩
  have HM : Hid _ := hm
  have HD : Hid _ := hd
  have HI : Hid (0 ≤ id ∧ id < 65536) := ⟨h0, h1⟩
  have hcs := own_cases id kl nl
  rw [← hm] at hcs
  clear hm hd h0 h1
  have HCS : Hid _ := hcs
  clear hcs
  go_enter Tryd.func84, Tryd.ntmps84
  go_wp2_with fail
  refine (many_any _ id HI.out.1 HI.out.2 HM.out).mono ?_
  rintro e w1 ⟨rfl, hB1⟩
  have hw1 : Below w.heap.size w w1 := (below_one _ _).trans (hB1.mono (by simp))
  have hbx : w1.heap[w.heap.size]? = some (.cells #[.int .u16 id, .string sp, .string nm, .slice na nl nc, .slice ka kl kc] 62 (0, 0)) := by rw [hB1.block _ (by simp)]; exact heap_alloc_new w _
  obtain ⟨c0, c1, c2, c3, c4⟩ := cells5 hbx
  have hs1 : w.heap.size < w1.heap.size := by have := hB1.size; simp at this; omega
  clear hbx hB1
  rcases HCS.out with ⟨hm, hh⟩ | ⟨N, hm, hN, h48, hh⟩ | h48 | h49
  · subst hm
    rw [hh] at HD
    obtain rfl : d = false := HD.out
    clear HD HCS HM hh
    go_wp2_with fail
    go_ret
    exact ⟨rfl, hw1⟩
  · subst hm
    have t48 : (id == 48) = false := by simpa using h48
    rw [hh] at HD
    clear HCS HM hh h48
    by_cases hkN : kl = N
    · subst hkN
      have HD2 : Hid (d = ((nl : Int) == 0)) := by show _ = _; rw [HD.out, eq_0]; simp
      clear HD
      go_wp2_with fail
      go_ret
      exact ⟨by rw [HD2.out]; rfl, hw1⟩
    · have tk : ((kl : Int) == (N : Int)) = false := by rw [eq_i]; simpa using hkN
      have tk2 : ((kl : Int) != (N : Int)) = true := by rw [bne, tk]; rfl
      obtain rfl : d = false := by rw [HD.out]; simp [hkN]
      clear HD hkN
      go_wp2_with fail
      go_ret
      exact ⟨rfl, hw1⟩
  · subst h48
    obtain rfl : m = -1 := HM.out
    have HD2 : Hid (d = ((nl : Int) == (kl : Int))) := by
      show _ = _
      rw [HD.out, eq_i]
      show decide (kl = nl) = _
      simp only [eq_comm]
    clear HD HM HCS
    go_wp2_with fail
    go_ret
    exact ⟨by rw [HD2.out]; rfl, hw1⟩
  · subst h49
    obtain rfl : m = -1 := HM.out
    have HD2 : Hid (d = ((nl : Int) == 0)) := by
      show _ = _
      rw [HD.out, eq_0]
      rfl
    clear HD HM HCS
    go_wp2_with fail
    go_ret
    exact ⟨by rw [HD2.out]; rfl, hw1⟩

/-- How deep a type is, so far as is looked. -/
def dep : Nat → Ty → Nat
  | 0, _ => 1
  | n + 1, t => (t.kids.map (dep n)).foldl max 0 + 1

theorem foldl_max (l : List Nat) (a : Nat) : (∀ m, m < l.foldl max a ↔ m < a ∨ ∃ x ∈ l, m < x) := by
  induction l generalizing a with
  | nil => intro m; simp
  | cons x l ih =>
    intro m
    rw [List.foldl_cons, ih]
    constructor
    · rintro (h | ⟨y, hy, h⟩)
      · by_cases hx : m < a
        · exact .inl hx
        · exact .inr ⟨x, List.mem_cons_self .., by omega⟩
      · exact .inr ⟨y, List.mem_cons_of_mem _ hy, h⟩
    · rintro (h | ⟨y, hy, h⟩)
      · exact .inl (by omega)
      · rcases List.mem_cons.1 hy with rfl | hy
        · exact .inl (by omega)
        · exact .inr ⟨y, hy, h⟩

theorem dep_deep : ∀ (m n : Nat) (t : Ty), m ≤ n → (m < dep n t ↔ deepB m t = true)
  | 0, n, t, _ => by
    have : 0 < dep n t := by cases n <;> simp [dep]
    simp [this, deepB]
  | m + 1, 0, t, h => by omega
  | m + 1, n + 1, t, h => by
    rw [dep, deepB, Nat.add_lt_add_iff_right, foldl_max, List.any_eq_true]
    constructor
    · rintro (h | ⟨x, hx, h2⟩)
      · omega
      · obtain ⟨k, hk, rfl⟩ := List.mem_map.1 hx
        exact ⟨k, hk, (dep_deep m n k (by omega)).1 h2⟩
    · rintro ⟨k, hk, h2⟩
      exact .inr ⟨_, List.mem_map.2 ⟨k, hk, rfl⟩, (dep_deep m n k (by omega)).2 h2⟩

theorem dep_le : ∀ (n : Nat) (t : Ty), dep n t ≤ n + 1
  | 0, t => by simp [dep]
  | n + 1, t => by
    rw [dep]
    have : ¬ (n + 1 < (t.kids.map (dep n)).foldl max 0) := by
      rw [foldl_max]
      rintro (h | ⟨x, hx, h2⟩)
      · omega
      · obtain ⟨k, hk, rfl⟩ := List.mem_map.1 hx
        have := dep_le n k
        omega
    omega

def mx (n : Nat) (l : List Ty) : Nat := (l.map (dep n)).foldl max 0
theorem mx_le (n : Nat) (l : List Ty) : mx n l ≤ n + 1 := by
  have := dep_le (n + 1) ⟨0, ⟨#[]⟩, ⟨#[]⟩, [], l⟩
  rw [dep] at this
  show (l.map (dep n)).foldl max 0 ≤ _
  simp only at this
  omega
theorem mx_snoc (n : Nat) (l : List Ty) (x : Ty) : mx n (l ++ [x]) = max (mx n l) (dep n x) := by
  simp [mx, List.foldl_append]

def DepP (n : Nat) : Prop := ∀ (F : Nat → Prop) (w : World) (t : Ty) (na : Option Addr) (nl nc : Nat) (ka : Option Addr) (kl kc : Nat), TyAt n F w t na nl nc ka kl kc → ∀ d : Int, d = dep n t →
  Calls Tryd.prog 65 #[.agg #[.int .u16 t.id, .string t.space, .string t.name, .slice na nl nc, .slice ka kl kc]] w fun e w' => e = .returned (.int .i64 d) ∧ Below w.heap.size w w'

set_option maxHeartbeats 1000000 in
set_option maxRecDepth 20000 in
theorem dep_step (n : Nat) (hn : n ≤ 1000) (ih : ∀ m, n = m + 1 → DepP m) : DepP n := by
  intro F w t na nl nc ka kl kc h d hd
  have hkl := h.kl_le
  unfold maxLen at hkl
  have hke := h.kl_eq
  have H : Hid (TyAt n F w t na nl nc ka kl kc) := h
  have IH : Hid _ := ih
  have HD : Hid (d = (mx (n - 1) t.kids : Int) + 1) := by
    show _ = _
    cases n with
    | zero =>
      have h0 : t.kids = [] := by
        rcases Nat.eq_zero_or_pos kl with e | e
        · exact List.eq_nil_of_length_eq_zero (by omega)
        · obtain ⟨_, _, _, _, h1, h2, h3, h4, h5⟩ := h
          obtain ⟨b, off, _, _, _, hc⟩ := h5 e
          obtain ⟨c, _, hv⟩ := hc 0 (t.kids[0]'(by omega)) (List.getElem?_eq_getElem (by omega))
          exact hv.elim
      rw [hd, h0]; rfl
    | succ m => rw [hd, dep]; rfl
  have HKE : Hid _ := hke
  clear h ih hd hke
  go_enter Tryd.func65, Tryd.ntmps65
  go_wp2_with fail
  go_loopw [3, 4] (fun q i wr => ∃ (k : Nat) (M : Int), k ≤ kl ∧ i = .int .i64 k ∧ q = .int .i64 M ∧ Hid (M = (mx (n - 1) (t.kids.take k) : Nat)) ∧ 0 ≤ M ∧ M ≤ 2000 ∧ Below (w.heap.size + 1) (w.alloc (.cells #[.int .u16 t.id, .string t.space, .string t.name, .slice na nl nc, .slice ka kl kc] 62)) wr) (fun _ i _ => kl - (intOf i).toNat)
  case atStart => exact ⟨0, 0, by omega, rfl, rfl, (by show _ = _; rfl), by omega, by omega, Below.refl _ _⟩
  case round =>
    obtain ⟨k, M, hk, rfl, rfl, HM, hM0, hM1, hBr⟩ := hrel
    have hbx : wr.heap[w.heap.size]? = some (.cells #[.int .u16 t.id, .string t.space, .string t.name, .slice na nl nc, .slice ka kl kc] 62 (0, 0)) := by rw [hBr.block _ (by omega)]; exact heap_alloc_new w _
    obtain ⟨c0, c1, c2, c3, c4⟩ := cells5 hbx
    have hsr : w.heap.size < wr.heap.size := by have := hBr.size; simp at this; omega
    have hBw : Below w.heap.size w wr := (below_one w _).trans (hBr.mono (by omega))
    clear hbx
    by_cases hlt : k < kl
    · obtain ⟨m, hm⟩ : ∃ m, n = m + 1 := by
        cases n with
        | zero =>
          obtain ⟨_, _, _, _, h1, h2, h3, h4, h5⟩ := H.out
          obtain ⟨b, off, _, _, _, hc⟩ := h5 (by omega)
          obtain ⟨c, _, hv⟩ := hc 0 (t.kids[0]'(by omega)) (List.getElem?_eq_getElem (by omega))
          exact hv.elim
        | succ m => exact ⟨m, rfl⟩
      have hH := H.out
      rw [hm] at hH
      obtain ⟨x, b, off, xa, xl, xc, ya, yl, yc, hx, rfl, hb, e0, e1, e2, e3, e4, hin⟩ := (hH.old hBw).kid hlt
      have HIN : Hid (TyAt m F wr x xa xl xc ya yl yc) := hin
      have HP : Hid (DepP m) := IH.out m hm
      obtain ⟨D, hD⟩ : ∃ D : Int, D = dep m x := ⟨_, rfl⟩
      have hD0 : 0 ≤ D := by omega
      have hD1 : D ≤ 2000 := by have := dep_le m x; omega
      have HS : Hid ((mx (n - 1) (t.kids.take (k + 1)) : Int) = max M D) := by
        show _ = _
        rw [HM.out, hD, List.take_add_one, hx]
        show ((mx (n - 1) (t.kids.take k ++ [x]) : Nat) : Int) = _
        rw [mx_snoc, show n - 1 = m by omega]
        omega
      have HDD : Hid _ := hD
      clear hx hin hH hm hBw hD
      go_wp2_with fail
      refine (HP.out F wr x _ _ _ _ _ _ HIN.out D HDD.out).mono ?_
      rintro e w3 ⟨rfl, hB3⟩
      have hB03 : Hid (Below (w.heap.size + 1) (w.alloc (.cells #[.int .u16 t.id, .string t.space, .string t.name, .slice na nl nc, .slice (some ⟨b, off, none⟩) kl kc] 62)) w3) := hBr.trans (hB3.mono (by omega))
      clear hB3 hBr e0 e1 e2 e3 e4
      by_cases hgt : M < D
      · have HS2 : Hid (D = (mx (n - 1) (t.kids.take (k + 1)) : Nat)) := by show _ = _; rw [HS.out]; omega
        go_wp2_with fail
        go_roundw
        case rel => exact ⟨k + 1, D, by omega, by go_num, rfl, HS2, hD0, hD1, hB03.out⟩
        case measure => simp [intOf]; omega
      · have tg : decide (M < D) = false := by simpa using hgt
        have HS2 : Hid (M = (mx (n - 1) (t.kids.take (k + 1)) : Nat)) := by show _ = _; rw [HS.out]; omega
        clear hgt
        go_wp2_with fail
        go_roundw
        case rel => exact ⟨k + 1, M, by omega, by go_num, rfl, HS2, hM0, hM1, hB03.out⟩
        case measure => simp [intOf]; omega
    · have HE : Hid (d = M + 1) := by
        show _ = _
        rw [HD.out, HM.out, List.take_of_length_le (by have := HKE.out; omega)]
      clear hBr
      go_wp2_with fail
      go_ret
      exact ⟨by rw [HE.out]; rfl, hBw⟩

theorem dep_any : ∀ n, n ≤ 1000 → DepP n
  | 0, h => dep_step 0 h (fun m e => by omega)
  | n + 1, h => dep_step (n + 1) h (fun m e => by obtain rfl : n = m := by omega
                                                  exact dep_any n (by omega))

theorem dep_bool (t : Ty) : decide ((20 : Int) < (dep 25 t : Int)) = deepB 20 t := by
  have h := dep_deep 20 25 t (by omega)
  cases hb : deepB 20 t with
  | true =>
    rw [hb] at h
    have := h.2 rfl
    exact decide_eq_true (by omega)
  | false =>
    rw [hb] at h
    have h2 : ¬ (20 < dep 25 t) := fun e => by cases h.1 e
    exact decide_eq_false (by omega)
end Go.Proofs.YtnapeecmlkkolaaDoor
