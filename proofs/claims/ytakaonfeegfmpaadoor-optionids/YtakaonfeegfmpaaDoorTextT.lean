/-
  The text of a type, and the contracts of kidsText, typeText and Text.
-/
import Derived.Test.YtakaonfeegfmpaaDoorGetT
import Derived.Test.YtakaonfeegfmpaaDoorShelf
import Derived.Lib.Join
namespace Go.Proofs.YtakaonfeegfmpaaDoor
open Go.RowKit
set_option linter.unusedVariables false
set_option linter.unusedSimpArgs false

/-- Texts with a comma and a blank between. -/
def joinT (ts : List ByteArray) : ByteArray := ⟨(Lib.join (ts.map (·.data.toList)) [44, 32]).toArray⟩

/-- A type's text. -/
def txt : Nat → Ty → ByteArray
  | 0, _ => ⟨#[]⟩
  | n + 1, t => if t.id = 0 then (⟨#[39]⟩ ++ t.name) ++ ⟨#[39]⟩ else if t.id = 32 then (⟨#[108, 105, 115, 116, 60]⟩ ++ joinT (t.kids.map (txt n))) ++ ⟨#[62]⟩ else if t.id = 34 then (⟨#[115, 101, 116, 60]⟩ ++ joinT (t.kids.map (txt n))) ++ ⟨#[62]⟩
    else if t.id = 33 then (⟨#[109, 97, 112, 60]⟩ ++ joinT (t.kids.map (txt n))) ++ ⟨#[62]⟩ else if t.id = 48 then (t.space ++ ⟨#[46]⟩) ++ t.name else if t.id = 49 then (⟨#[116, 117, 112, 108, 101, 60]⟩ ++ joinT (t.kids.map (txt n))) ++ ⟨#[62]⟩
    else plainAt t.id.toNat

/-- How long a text may be at most. -/
def tlen : Nat → Ty → Nat
  | 0, _ => 0
  | n + 1, t => 20 + t.space.size + t.name.size + (t.kids.map (fun k => 2 + tlen n k)).sum

theorem join_len (ts : List ByteArray) (g : ByteArray → Nat) (h : ∀ s, s ∈ ts → s.size ≤ g s) : (Lib.join (ts.map (·.data.toList)) [44, 32]).length ≤ (ts.map (fun s => 2 + g s)).sum := by
  cases ts with
  | nil => simp [Lib.join_nil]
  | cons x r =>
    rw [List.map_cons, Lib.join_length]
    simp only [List.length_map, List.length_cons, List.length_nil]
    have hh : Lib.lens (x.data.toList :: r.map (·.data.toList)) ≤ ((x :: r).map g).sum := by
      have : ∀ l : List ByteArray, (∀ s, s ∈ l → s.size ≤ g s) → Lib.lens (l.map (·.data.toList)) ≤ (l.map g).sum := by
        intro l
        induction l with
        | nil => intro _; simp [Lib.lens]
        | cons y l ih =>
          intro hl
          have h1 := ih (fun s hs => hl s (List.mem_cons_of_mem _ hs))
          have h2 := hl y List.mem_cons_self
          simp only [Lib.lens, List.map_cons, List.sum_cons] at h1 ⊢
          have h3 : y.data.toList.length = y.size := Array.length_toList
          omega
      exact this (x :: r) h
    have h2 : ((x :: r).map (fun s => 2 + g s)).sum = 2 * (r.length + 1) + ((x :: r).map g).sum := by
      have : ∀ l : List ByteArray, (l.map (fun s => 2 + g s)).sum = 2 * l.length + (l.map g).sum := by
        intro l
        induction l with
        | nil => rfl
        | cons y l ih => simp only [List.map_cons, List.sum_cons, List.length_cons, ih]; omega
      rw [this (x :: r)]; rfl
    omega

theorem joinT_size (ts : List ByteArray) (g : ByteArray → Nat) (h : ∀ s, s ∈ ts → s.size ≤ g s) : (joinT ts).size ≤ (ts.map (fun s => 2 + g s)).sum := by
  have := join_len ts g h
  simpa [joinT, ByteArray.size] using this

theorem plainAt_size (i : Nat) : (plainAt i).size ≤ 9 := by
  by_cases h : i < 21
  · have : ∀ j : Fin 21, (plainAt j.val).size ≤ 9 := by decide +kernel
    exact this ⟨i, h⟩
  · unfold plainAt
    rw [List.getD_eq_getElem?_getD, List.getElem?_eq_none (by show 21 ≤ i; omega)]
    show 0 ≤ 9
    omega

theorem kids_size {n : Nat} (ih : ∀ t, (txt n t).size ≤ tlen n t) (ks : List Ty) : (Lib.join ((ks.map (txt n)).map (·.data.toList)) [44, 32]).length ≤ (ks.map (fun k => 2 + tlen n k)).sum := by
  have hs : ∀ l : List Ty, ((l.map (txt n)).map (fun s => 2 + s.size)).sum ≤ (l.map (fun k => 2 + tlen n k)).sum := by
    intro l
    induction l with
    | nil => simp
    | cons y l ih2 =>
      have := ih y
      simp only [List.map_cons, List.sum_cons] at ih2 ⊢
      omega
  exact Nat.le_trans (join_len _ (fun s => s.size) (fun s _ => Nat.le_refl _)) (hs ks)

theorem txt_size : ∀ (n : Nat) (t : Ty), (txt n t).size ≤ tlen n t
  | 0, t => by show 0 ≤ 0; omega
  | n + 1, t => by
    have hk := kids_size (txt_size n) t.kids
    have hj : (joinT (t.kids.map (txt n))).size ≤ (t.kids.map (fun k => 2 + tlen n k)).sum := by simpa [joinT, ByteArray.size] using hk
    have hp := plainAt_size t.id.toNat
    rw [txt, tlen]
    have e1 : (⟨#[39]⟩ : ByteArray).size = 1 := rfl
    have e2 : (⟨#[108, 105, 115, 116, 60]⟩ : ByteArray).size = 5 := rfl
    have e3 : (⟨#[115, 101, 116, 60]⟩ : ByteArray).size = 4 := rfl
    have e4 : (⟨#[109, 97, 112, 60]⟩ : ByteArray).size = 4 := rfl
    have e5 : (⟨#[116, 117, 112, 108, 101, 60]⟩ : ByteArray).size = 6 := rfl
    have e6 : (⟨#[62]⟩ : ByteArray).size = 1 := rfl
    have e7 : (⟨#[46]⟩ : ByteArray).size = 1 := rfl
    repeat' split
    all_goals (try simp only [ByteArray.size_append, e1, e2, e3, e4, e5, e6, e7])
    all_goals omega

/-- The cells of a row of texts of which the first k are laid. -/
def strCells (ts : List ByteArray) (k : Nat) : Array Value := ((List.range ts.length).map fun i => if i < k then Value.string (ts.getD i ⟨#[]⟩) else .string ⟨#[]⟩).toArray

theorem strCells_zero (ts : List ByteArray) : strCells ts 0 = madeCells #[.string ⟨#[]⟩] ts.length := by
  apply Array.ext'
  rw [toList_madeCells_one]
  simp [strCells, List.map_const']

theorem strCells_set (ts : List ByteArray) (k : Nat) (h : k < ts.length) : (strCells ts k).setIfInBounds k (.string (ts.getD k ⟨#[]⟩)) = strCells ts (k + 1) := by
  apply Array.ext (by simp [strCells])
  intro i h1 h2
  rw [Array.getElem_setIfInBounds]
  · by_cases e : k = i
    · subst e; simp [strCells]
    · rw [if_neg e]
      simp only [strCells, List.getElem_toArray, List.getElem_map, List.getElem_range]
      by_cases hi : i < k
      · rw [if_pos hi, if_pos (by omega)]
      · rw [if_neg hi, if_neg (by omega)]
  · simpa using h1

theorem strCells_at (ts : List ByteArray) (k i : Nat) (h : i < ts.length) : (strCells ts k)[i]? = some (if i < k then Value.string (ts.getD i ⟨#[]⟩) else .string ⟨#[]⟩) := by
  simp [strCells, h]

/-- The contract of typeText, of types so deep. -/
def TextsTy (n : Nat) : Prop := ∀ (F : Nat → Prop) (w : World) (t : Ty) (na : Option Addr) (nl nc : Nat) (ka : Option Addr) (kl kc : Nat), TyAt n F w t na nl nc ka kl kc → Tab w → mayB (n + 1) t = true → tlen (n + 1) t ≤ 17592186044416 → ∀ S, S = txt (n + 1) t →
  Calls Tryd.prog 25 #[.agg #[.int .u16 t.id, .string t.space, .string t.name, .slice na nl nc, .slice ka kl kc]] w fun e w' => e = .returned (.string S) ∧ Below w.heap.size w w'

theorem sum_len (f : Ty → Nat) : ∀ ks : List Ty, 2 * ks.length ≤ (ks.map (fun k => 2 + f k)).sum
  | [] => by simp
  | y :: r => by
    have := sum_len f r
    simp only [List.map_cons, List.sum_cons, List.length_cons]
    omega

theorem sum_mem {ks : List Ty} {f : Ty → Nat} {x : Ty} (hx : x ∈ ks) : f x ≤ (ks.map f).sum := by
  induction ks with
  | nil => cases hx
  | cons y r ih =>
    rw [List.map_cons, List.sum_cons]
    rcases List.mem_cons.1 hx with h | h
    · subst h; omega
    · have := ih h; omega

set_option maxHeartbeats 1000000 in
theorem kidsText_any (n : Nat) (ih : ∀ m, n = m + 1 → TextsTy m) {F : Nat → Prop} {w : World} {t : Ty} {na : Option Addr} {nl nc : Nat} {ka : Option Addr} {kl kc : Nat}
    (h : TyAt n F w t na nl nc ka kl kc) (hT : Tab w) (hm : t.kids.all (mayB n) = true) (hbd : (t.kids.map (fun k => 2 + tlen n k)).sum ≤ 17592186044416) {S : ByteArray} (hS : S = joinT (t.kids.map (txt n))) :
    Calls Tryd.prog 40 #[.slice ka kl kc] w fun e w' => e = .returned (.string S) ∧ Below w.heap.size w w' := by
  obtain ⟨ts, hts⟩ : ∃ ts, ts = t.kids.map (txt n) := ⟨_, rfl⟩
  have htl : ts.length = kl := by rw [hts, List.length_map, h.kl_eq]
  have hkl : kl ≤ 8796093022208 := by
    have := sum_len (fun k => tlen n k) t.kids
    rw [h.kl_eq] at this
    omega
  have hmk := run_make_row' (P := Tryd.prog) 23 9 (.string ⟨#[]⟩) 16 Tryd.underlying23 Tryd.info9 rfl .i64 .i64 kl (by omega) (by omega)
  have HTL : Hid _ := htl
  have HL : Hid (t.kids.length = kl) := h.kl_eq
  have H : Hid (TyAt n F w t na nl nc ka kl kc) := h
  have HT : Hid (Tab w) := hT
  have HM : Hid _ := hm
  have HBD : Hid _ := hbd
  have HS : Hid (S = joinT ts) := by show _ = _; rw [hS, hts]
  have HTS : Hid _ := hts
  have IH : Hid _ := ih
  have HZ : Hid (strCells ts 0 = madeCells #[.string ⟨#[]⟩] kl) := by show _ = _; rw [strCells_zero, htl]
  clear h hT hm hbd hS hts ih htl
  go_enter Tryd.func40, Tryd.ntmps40
  go_wp2_with fail
  go_loopw [11] (fun i wr => ∃ k : Nat, k ≤ kl ∧ i = .int .i64 k ∧ Hid (wr.heap[w.heap.size]? = some (.cells (strCells ts k) 9 (0, 0))) ∧ Below w.heap.size w wr ∧ w.heap.size < wr.heap.size) (fun i _ => kl - (intOf i).toNat)
  case atStart => exact ⟨0, by omega, rfl, by rw [HZ.out]; exact heap_alloc_new w _, below_one _ _, by simp⟩
  case round =>
    obtain ⟨k, hk, rfl, HR, hB, hsz⟩ := hrel
    by_cases hlt : k < kl
    · obtain ⟨m, hm⟩ := H.out.pos (by omega)
      obtain ⟨x, b, off, xa, xl, xc, ya, yl, yc, hx, rfl, hbs, c0, c1, c2, c3, c4, hin⟩ := (hm ▸ (H.out.old hB) : TyAt (m + 1) F wr t na nl nc ka kl kc).kid hlt
      obtain ⟨Sx, hSx⟩ : ∃ Sx, Sx = txt n x := ⟨_, rfl⟩
      have HIN : Hid (TyAt m F wr x xa xl xc ya yl yc) := hin
      have HSX : Hid (Sx = txt (m + 1) x) := by show _ = _; rw [hSx, hm]
      have HSK : Hid (ts.getD k ⟨#[]⟩ = Sx) := by
        show _ = _
        rw [HTS.out, List.getD_eq_getElem?_getD, List.getElem?_map, hx, hSx]; rfl
      have HMX : Hid (mayB (m + 1) x = true) := by
        show _ = _
        rw [← hm]; exact List.all_eq_true.1 HM.out x (List.mem_of_getElem? hx)
      have HLX : Hid (tlen (m + 1) x ≤ 17592186044416) := by
        show _ ≤ _
        have := sum_mem (f := fun k => 2 + tlen n k) (List.mem_of_getElem? hx)
        have := HBD.out
        rw [← hm]; omega
      have HMM : Hid _ := hm
      have HTr : Hid (Tab wr) := HT.out.old hB
      clear hx hin hSx hm
      go_wp2_with fail
      refine (IH.out m HMM.out F _ x xa xl xc ya yl yc (HIN.out.old (below_one _ _)) (HTr.out.old (below_one _ _)) HMX.out HLX.out Sx HSX.out).mono ?_
      rintro e w2 ⟨rfl, hB2x⟩
      have hB2 : Below wr.heap.size wr w2 := (below_one wr _).trans (hB2x.mono (by simp))
      have HR2 : Hid (w2.heap[w.heap.size]? = some (.cells (strCells ts k) 9 (0, 0))) := by
        show _ = _
        rw [hB2.block _ hsz]; exact HR.out
      have g0 : w2.cell? ⟨w.heap.size, k, .none⟩ = some (.string ⟨#[]⟩) := by
        rw [Lib.cell_of_heap HR2.out, strCells_at _ _ _ (by rw [HTL.out]; exact hlt), if_neg (by omega)]
      have g1 : w2.frozen? ⟨w.heap.size, k, .none⟩ = false := by
        simp [World.frozen?, HR2.out]
      have hB2s := hB2.size
      have hsz2 : w.heap.size < w2.heap.size := by omega
      have HR3 : Hid ((w2.setCell ⟨w.heap.size, k, .none⟩ (.string Sx)).heap[w.heap.size]? = some (.cells (strCells ts (k + 1)) 9 (0, 0))) := by
        show _ = _
        rw [← strCells_set ts k (by rw [HTL.out]; exact hlt), HSK.out]
        exact heap_setCell_same w2 w.heap.size k _ 9 _ HR2.out
      clear hB2x
      go_wp2_with fail
      go_roundw
      case rel => exact ⟨k + 1, by omega, by go_num, HR3, (hB.trans (hB2.mono hB.size)).setCell (p := ⟨w.heap.size, k, .none⟩) (Nat.le_refl _) _, by simpa using hsz2⟩
      case measure => simp [intOf]; omega
    · obtain rfl : k = kl := by omega
      have HJ : Hid ((Lib.join (ts.map (·.data.toList)) [44, 32]).length ≤ 140737488355328) := by
        show _ ≤ _
        have := kids_size (txt_size n) t.kids
        rw [← HTS.out] at this
        have := HBD.out
        omega
      have HCELL : Hid (∀ (j : Nat) x, ts[j]? = some x → wr.cell? ⟨w.heap.size, 0 + j, .none⟩ = some (.string x)) := by
        intro j x hx
        have hj := (List.getElem?_eq_some_iff.1 hx).1
        rw [Nat.zero_add, Lib.cell_of_heap HR.out, strCells_at _ _ _ hj, if_pos (by have := HTL.out; omega), List.getD_eq_getElem?_getD, hx]; rfl
      have hJ := Tryd.strings_Join w.heap.size 0 k ts ⟨#[44, 32]⟩ wr HCELL.out hsz (by have := HTL.out; omega) (by have := HTL.out; omega) HJ.out
      rw [HTL.out] at hJ
      have HJJ : Hid _ := hJ
      clear hJ
      go_wp2_with fail
      refine Calls.mono HJJ.out ?_
      rintro e w2 ⟨rfl, hB2⟩
      have HSE : Hid (S = ⟨(Lib.join (ts.map (·.data.toList)) [44, 32]).toArray⟩) := HS.out
      generalize (Lib.join (ts.map (·.data.toList)) [44, 32]) = JJ at *
      go_wp2_with fail
      go_ret
      exact ⟨by rw [HSE.out]; rfl, hB.trans (hB2.mono hB.size)⟩
set_option maxHeartbeats 1000000 in
theorem typeText_custom (n : Nat) (ih : ∀ m, n = m + 1 → TextsTy m) {F : Nat → Prop} {w : World} {t : Ty} {na : Option Addr} {nl nc : Nat} {ka : Option Addr} {kl kc : Nat} (h : TyAt n F w t na nl nc ka kl kc) (hT : Tab w) (hm : t.kids.all (mayB n) = true) (hbd : tlen (n + 1) t ≤ 17592186044416) (q0 : (t.id == 0) = true) {S : ByteArray} (hS : S = (⟨#[39]⟩ ++ t.name) ++ ⟨#[39]⟩) :
    Calls Tryd.prog 25 #[.agg #[.int .u16 t.id, .string t.space, .string t.name, .slice na nl nc, .slice ka kl kc]] w fun e w' => e = .returned (.string S) ∧ Below w.heap.size w w' := by
  have hid := h.idr
  have H : Hid (TyAt n F w t na nl nc ka kl kc) := h
  have HT : Hid (Tab w) := hT
  have HM : Hid _ := hm
  have HBD : Hid (20 + t.space.size + t.name.size + (t.kids.map (fun k => 2 + tlen n k)).sum ≤ 17592186044416) := hbd
  have HS : Hid _ := hS
  have hzn : t.name.size ≤ 17592186044416 := by have := HBD.out; omega
  have hzs : t.space.size ≤ 17592186044416 := by have := HBD.out; omega
  clear h hT hm hbd hS
  go_enter Tryd.func25, Tryd.ntmps25
  go_wp2_with fail
  go_ret
  exact ⟨by rw [HS.out]; rfl, below_one _ _⟩

set_option maxHeartbeats 1000000 in
theorem typeText_udt (n : Nat) (ih : ∀ m, n = m + 1 → TextsTy m) {F : Nat → Prop} {w : World} {t : Ty} {na : Option Addr} {nl nc : Nat} {ka : Option Addr} {kl kc : Nat} (h : TyAt n F w t na nl nc ka kl kc) (hT : Tab w) (hm : t.kids.all (mayB n) = true) (hbd : tlen (n + 1) t ≤ 17592186044416) (q0 : (t.id == 0) = false) (q32 : (t.id == 32) = false) (q34 : (t.id == 34) = false) (q33 : (t.id == 33) = false) (q48 : (t.id == 48) = true) {S : ByteArray} (hS : S = (t.space ++ ⟨#[46]⟩) ++ t.name) :
    Calls Tryd.prog 25 #[.agg #[.int .u16 t.id, .string t.space, .string t.name, .slice na nl nc, .slice ka kl kc]] w fun e w' => e = .returned (.string S) ∧ Below w.heap.size w w' := by
  have hid := h.idr
  have H : Hid (TyAt n F w t na nl nc ka kl kc) := h
  have HT : Hid (Tab w) := hT
  have HM : Hid _ := hm
  have HBD : Hid (20 + t.space.size + t.name.size + (t.kids.map (fun k => 2 + tlen n k)).sum ≤ 17592186044416) := hbd
  have HS : Hid _ := hS
  have hzn : t.name.size ≤ 17592186044416 := by have := HBD.out; omega
  have hzs : t.space.size ≤ 17592186044416 := by have := HBD.out; omega
  clear h hT hm hbd hS
  go_enter Tryd.func25, Tryd.ntmps25
  go_wp2_with fail
  go_ret
  exact ⟨by rw [HS.out]; rfl, below_one _ _⟩

set_option maxHeartbeats 1000000 in
theorem typeText_list (n : Nat) (ih : ∀ m, n = m + 1 → TextsTy m) {F : Nat → Prop} {w : World} {t : Ty} {na : Option Addr} {nl nc : Nat} {ka : Option Addr} {kl kc : Nat} (h : TyAt n F w t na nl nc ka kl kc) (hT : Tab w) (hm : t.kids.all (mayB n) = true) (hbd : tlen (n + 1) t ≤ 17592186044416) (q0 : (t.id == 0) = false) (q32 : (t.id == 32) = true) {S : ByteArray} (hS : S = (⟨#[108, 105, 115, 116, 60]⟩ ++ joinT (t.kids.map (txt n))) ++ ⟨#[62]⟩) :
    Calls Tryd.prog 25 #[.agg #[.int .u16 t.id, .string t.space, .string t.name, .slice na nl nc, .slice ka kl kc]] w fun e w' => e = .returned (.string S) ∧ Below w.heap.size w w' := by
  have hid := h.idr
  have H : Hid (TyAt n F w t na nl nc ka kl kc) := h
  have HT : Hid (Tab w) := hT
  have HM : Hid _ := hm
  have HBD : Hid (20 + t.space.size + t.name.size + (t.kids.map (fun k => 2 + tlen n k)).sum ≤ 17592186044416) := hbd
  have HS : Hid _ := hS
  have hzn : t.name.size ≤ 17592186044416 := by have := HBD.out; omega
  have hzs : t.space.size ≤ 17592186044416 := by have := HBD.out; omega
  clear h hT hm hbd hS
  obtain ⟨J, hJ⟩ : ∃ J, J = joinT (t.kids.map (txt n)) := ⟨_, rfl⟩
  have hzj : J.size ≤ 17592186044416 := by
    have h1 := kids_size (txt_size n) t.kids
    have h2 : J.size = (Lib.join ((t.kids.map (txt n)).map (·.data.toList)) [44, 32]).length := by rw [hJ]; rfl
    have := HBD.out
    omega
  have HJ : Hid _ := hJ
  clear hJ
  go_enter Tryd.func25, Tryd.ntmps25
  go_wp2_with fail
  refine (kidsText_any n ih (H.out.old (below_one _ _)) (HT.out.old (below_one _ _)) HM.out (by have := HBD.out; omega) HJ.out).mono ?_
  rintro e w1 ⟨rfl, hB⟩
  go_wp2_with fail
  go_ret
  exact ⟨by rw [HS.out, ← HJ.out]; rfl, (below_one _ _).trans (hB.mono (by simp))⟩

set_option maxHeartbeats 1000000 in
theorem typeText_set (n : Nat) (ih : ∀ m, n = m + 1 → TextsTy m) {F : Nat → Prop} {w : World} {t : Ty} {na : Option Addr} {nl nc : Nat} {ka : Option Addr} {kl kc : Nat} (h : TyAt n F w t na nl nc ka kl kc) (hT : Tab w) (hm : t.kids.all (mayB n) = true) (hbd : tlen (n + 1) t ≤ 17592186044416) (q0 : (t.id == 0) = false) (q32 : (t.id == 32) = false) (q34 : (t.id == 34) = true) {S : ByteArray} (hS : S = (⟨#[115, 101, 116, 60]⟩ ++ joinT (t.kids.map (txt n))) ++ ⟨#[62]⟩) :
    Calls Tryd.prog 25 #[.agg #[.int .u16 t.id, .string t.space, .string t.name, .slice na nl nc, .slice ka kl kc]] w fun e w' => e = .returned (.string S) ∧ Below w.heap.size w w' := by
  have hid := h.idr
  have H : Hid (TyAt n F w t na nl nc ka kl kc) := h
  have HT : Hid (Tab w) := hT
  have HM : Hid _ := hm
  have HBD : Hid (20 + t.space.size + t.name.size + (t.kids.map (fun k => 2 + tlen n k)).sum ≤ 17592186044416) := hbd
  have HS : Hid _ := hS
  have hzn : t.name.size ≤ 17592186044416 := by have := HBD.out; omega
  have hzs : t.space.size ≤ 17592186044416 := by have := HBD.out; omega
  clear h hT hm hbd hS
  obtain ⟨J, hJ⟩ : ∃ J, J = joinT (t.kids.map (txt n)) := ⟨_, rfl⟩
  have hzj : J.size ≤ 17592186044416 := by
    have h1 := kids_size (txt_size n) t.kids
    have h2 : J.size = (Lib.join ((t.kids.map (txt n)).map (·.data.toList)) [44, 32]).length := by rw [hJ]; rfl
    have := HBD.out
    omega
  have HJ : Hid _ := hJ
  clear hJ
  go_enter Tryd.func25, Tryd.ntmps25
  go_wp2_with fail
  refine (kidsText_any n ih (H.out.old (below_one _ _)) (HT.out.old (below_one _ _)) HM.out (by have := HBD.out; omega) HJ.out).mono ?_
  rintro e w1 ⟨rfl, hB⟩
  go_wp2_with fail
  go_ret
  exact ⟨by rw [HS.out, ← HJ.out]; rfl, (below_one _ _).trans (hB.mono (by simp))⟩

set_option maxHeartbeats 1000000 in
theorem typeText_map (n : Nat) (ih : ∀ m, n = m + 1 → TextsTy m) {F : Nat → Prop} {w : World} {t : Ty} {na : Option Addr} {nl nc : Nat} {ka : Option Addr} {kl kc : Nat} (h : TyAt n F w t na nl nc ka kl kc) (hT : Tab w) (hm : t.kids.all (mayB n) = true) (hbd : tlen (n + 1) t ≤ 17592186044416) (q0 : (t.id == 0) = false) (q32 : (t.id == 32) = false) (q34 : (t.id == 34) = false) (q33 : (t.id == 33) = true) {S : ByteArray} (hS : S = (⟨#[109, 97, 112, 60]⟩ ++ joinT (t.kids.map (txt n))) ++ ⟨#[62]⟩) :
    Calls Tryd.prog 25 #[.agg #[.int .u16 t.id, .string t.space, .string t.name, .slice na nl nc, .slice ka kl kc]] w fun e w' => e = .returned (.string S) ∧ Below w.heap.size w w' := by
  have hid := h.idr
  have H : Hid (TyAt n F w t na nl nc ka kl kc) := h
  have HT : Hid (Tab w) := hT
  have HM : Hid _ := hm
  have HBD : Hid (20 + t.space.size + t.name.size + (t.kids.map (fun k => 2 + tlen n k)).sum ≤ 17592186044416) := hbd
  have HS : Hid _ := hS
  have hzn : t.name.size ≤ 17592186044416 := by have := HBD.out; omega
  have hzs : t.space.size ≤ 17592186044416 := by have := HBD.out; omega
  clear h hT hm hbd hS
  obtain ⟨J, hJ⟩ : ∃ J, J = joinT (t.kids.map (txt n)) := ⟨_, rfl⟩
  have hzj : J.size ≤ 17592186044416 := by
    have h1 := kids_size (txt_size n) t.kids
    have h2 : J.size = (Lib.join ((t.kids.map (txt n)).map (·.data.toList)) [44, 32]).length := by rw [hJ]; rfl
    have := HBD.out
    omega
  have HJ : Hid _ := hJ
  clear hJ
  go_enter Tryd.func25, Tryd.ntmps25
  go_wp2_with fail
  refine (kidsText_any n ih (H.out.old (below_one _ _)) (HT.out.old (below_one _ _)) HM.out (by have := HBD.out; omega) HJ.out).mono ?_
  rintro e w1 ⟨rfl, hB⟩
  go_wp2_with fail
  go_ret
  exact ⟨by rw [HS.out, ← HJ.out]; rfl, (below_one _ _).trans (hB.mono (by simp))⟩

set_option maxHeartbeats 1000000 in
theorem typeText_tuple (n : Nat) (ih : ∀ m, n = m + 1 → TextsTy m) {F : Nat → Prop} {w : World} {t : Ty} {na : Option Addr} {nl nc : Nat} {ka : Option Addr} {kl kc : Nat} (h : TyAt n F w t na nl nc ka kl kc) (hT : Tab w) (hm : t.kids.all (mayB n) = true) (hbd : tlen (n + 1) t ≤ 17592186044416) (q0 : (t.id == 0) = false) (q32 : (t.id == 32) = false) (q34 : (t.id == 34) = false) (q33 : (t.id == 33) = false) (q48 : (t.id == 48) = false) (q49 : (t.id == 49) = true) {S : ByteArray} (hS : S = (⟨#[116, 117, 112, 108, 101, 60]⟩ ++ joinT (t.kids.map (txt n))) ++ ⟨#[62]⟩) :
    Calls Tryd.prog 25 #[.agg #[.int .u16 t.id, .string t.space, .string t.name, .slice na nl nc, .slice ka kl kc]] w fun e w' => e = .returned (.string S) ∧ Below w.heap.size w w' := by
  have hid := h.idr
  have H : Hid (TyAt n F w t na nl nc ka kl kc) := h
  have HT : Hid (Tab w) := hT
  have HM : Hid _ := hm
  have HBD : Hid (20 + t.space.size + t.name.size + (t.kids.map (fun k => 2 + tlen n k)).sum ≤ 17592186044416) := hbd
  have HS : Hid _ := hS
  have hzn : t.name.size ≤ 17592186044416 := by have := HBD.out; omega
  have hzs : t.space.size ≤ 17592186044416 := by have := HBD.out; omega
  clear h hT hm hbd hS
  obtain ⟨J, hJ⟩ : ∃ J, J = joinT (t.kids.map (txt n)) := ⟨_, rfl⟩
  have hzj : J.size ≤ 17592186044416 := by
    have h1 := kids_size (txt_size n) t.kids
    have h2 : J.size = (Lib.join ((t.kids.map (txt n)).map (·.data.toList)) [44, 32]).length := by rw [hJ]; rfl
    have := HBD.out
    omega
  have HJ : Hid _ := hJ
  clear hJ
  go_enter Tryd.func25, Tryd.ntmps25
  go_wp2_with fail
  refine (kidsText_any n ih (H.out.old (below_one _ _)) (HT.out.old (below_one _ _)) HM.out (by have := HBD.out; omega) HJ.out).mono ?_
  rintro e w1 ⟨rfl, hB⟩
  go_wp2_with fail
  go_ret
  exact ⟨by rw [HS.out, ← HJ.out]; rfl, (below_one _ _).trans (hB.mono (by simp))⟩

set_option maxHeartbeats 1000000 in
theorem typeText_plain (n : Nat) (ih : ∀ m, n = m + 1 → TextsTy m) {F : Nat → Prop} {w : World} {t : Ty} {na : Option Addr} {nl nc : Nat} {ka : Option Addr} {kl kc : Nat} (h : TyAt n F w t na nl nc ka kl kc) (hT : Tab w) (hm : t.kids.all (mayB n) = true) (hbd : tlen (n + 1) t ≤ 17592186044416) (q0 : (t.id == 0) = false) (q32 : (t.id == 32) = false) (q34 : (t.id == 34) = false) (q33 : (t.id == 33) = false) (q48 : (t.id == 48) = false) (q49 : (t.id == 49) = false) (i : Nat) (hi : i < 21) (hti : t.id = i) {S : ByteArray} (hS : S = plainAt i) :
    Calls Tryd.prog 25 #[.agg #[.int .u16 t.id, .string t.space, .string t.name, .slice na nl nc, .slice ka kl kc]] w fun e w' => e = .returned (.string S) ∧ Below w.heap.size w w' := by
  have hid := h.idr
  have H : Hid (TyAt n F w t na nl nc ka kl kc) := h
  have HT : Hid (Tab w) := hT
  have HM : Hid _ := hm
  have HBD : Hid (20 + t.space.size + t.name.size + (t.kids.map (fun k => 2 + tlen n k)).sum ≤ 17592186044416) := hbd
  have HS : Hid _ := hS
  have hzn : t.name.size ≤ 17592186044416 := by have := HBD.out; omega
  have hzs : t.space.size ≤ 17592186044416 := by have := HBD.out; omega
  clear h hT hm hbd hS
  have hc := HT.out.cell i hi
  have hlt := HT.out.lt
  have HI : Hid _ := hti
  clear hid
  rw [hti] at q0 q32 q34 q33 q48 q49 ⊢
  clear hti
  generalize plainAt i = s at *
  go_enter Tryd.func25, Tryd.ntmps25
  go_wp2_with fail
  go_ret
  exact ⟨by rw [HS.out]; rfl, below_one _ _⟩

theorem typeText_step (n : Nat) (ih : ∀ m, n = m + 1 → TextsTy m) : TextsTy n := by
  intro F w t na nl nc ka kl kc h hT hm hbd S hS
  rw [mayB, Bool.and_eq_true] at hm
  obtain ⟨hh, hk⟩ := hm
  have hid := h.idr
  rw [txt] at hS
  by_cases h0 : t.id = 0
  · rw [if_pos h0] at hS
    exact typeText_custom n ih h hT hk hbd (by simp [h0]) hS
  rw [if_neg h0] at hS
  have q0 : (t.id == 0) = false := by simpa using h0
  by_cases h32 : t.id = 32
  · rw [if_pos h32] at hS
    exact typeText_list n ih h hT hk hbd q0 (by simp [h32]) hS
  rw [if_neg h32] at hS
  have q32 : (t.id == 32) = false := by simpa using h32
  by_cases h34 : t.id = 34
  · rw [if_pos h34] at hS
    exact typeText_set n ih h hT hk hbd q0 q32 (by simp [h34]) hS
  rw [if_neg h34] at hS
  have q34 : (t.id == 34) = false := by simpa using h34
  by_cases h33 : t.id = 33
  · rw [if_pos h33] at hS
    exact typeText_map n ih h hT hk hbd q0 q32 q34 (by simp [h33]) hS
  rw [if_neg h33] at hS
  have q33 : (t.id == 33) = false := by simpa using h33
  by_cases h48 : t.id = 48
  · rw [if_pos h48] at hS
    exact typeText_udt n ih h hT hk hbd q0 q32 q34 q33 (by simp [h48]) hS
  rw [if_neg h48] at hS
  have q48 : (t.id == 48) = false := by simpa using h48
  by_cases h49 : t.id = 49
  · rw [if_pos h49] at hS
    exact typeText_tuple n ih h hT hk hbd q0 q32 q34 q33 q48 (by simp [h49]) hS
  rw [if_neg h49] at hS
  have q49 : (t.id == 49) = false := by simpa using h49
  rw [hasB_else h0 h32 h33 h34 h48 h49] at hh
  have hp : plainB t.id = true := by
    rw [Bool.and_eq_true, Bool.and_eq_true] at hh
    exact hh.1.1
  have hr : 1 ≤ t.id ∧ t.id ≤ 20 := by
    simp only [plainB, Bool.and_eq_true, decide_eq_true_eq] at hp
    exact hp.1
  exact typeText_plain n ih h hT hk hbd q0 q32 q34 q33 q48 q49 t.id.toNat (by omega) (by omega) hS

theorem typeText_any (n : Nat) : TextsTy n := by
  induction n with
  | zero => exact typeText_step 0 (fun m hm => by omega)
  | succ n ih => exact typeText_step (n + 1) (fun m hm => (Nat.succ.inj hm) ▸ ih)

/-- Text: the text, and the error. -/
def textT (n : Nat) (t : Ty) : ByteArray × Int := if deepB 20 t = true then (⟨#[]⟩, 13) else if mayB (n + 1) t = true then (txt (n + 1) t, 0) else (⟨#[]⟩, 1)

set_option maxHeartbeats 1000000 in
theorem Text_any {n : Nat} {F : Nat → Prop} {w : World} {t : Ty} {na : Option Addr} {nl nc : Nat} {ka : Option Addr} {kl kc : Nat} (h : TyAt n F w t na nl nc ka kl kc) (hT : Tab w) (hbd : tlen (n + 1) t ≤ 17592186044416) {R : ByteArray × Int} (hR : R = textT n t) :
    Calls Tryd.prog 14 #[.agg #[.int .u16 t.id, .string t.space, .string t.name, .slice na nl nc, .slice ka kl kc]] w fun e w' => e = .returned (.tuple #[.string R.1, .int .i64 R.2]) ∧ Below w.heap.size w w' := by
  have H : Hid (TyAt n F w t na nl nc ka kl kc) := h
  have HT : Hid (Tab w) := hT
  have HBD : Hid _ := hbd
  have HR : Hid _ := hR
  obtain ⟨d, hd⟩ : ∃ d, d = deepB 20 t := ⟨_, rfl⟩
  obtain ⟨m, hm⟩ : ∃ m, m = mayB (n + 1) t := ⟨_, rfl⟩
  have HD : Hid _ := hd
  have HM : Hid _ := hm
  clear h hT hR hd hbd hm
  go_enter Tryd.func14, Tryd.ntmps14
  go_wp2_with fail
  refine (isDeeper_any _ 20 (by omega) n _ t na nl nc ka kl kc (H.out.old (below_one _ _)) d HD.out 20 rfl).mono ?_
  rintro e w1 ⟨rfl, hB1⟩
  have hBw : Below w.heap.size w w1 := (below_one _ _).trans (hB1.mono (by simp))
  cases d with
  | true =>
    have HE : Hid (R = (⟨#[]⟩, 13)) := by show _ = _; rw [HR.out, textT, if_pos HD.out.symm]
    go_wp2_with fail
    go_ret2
    exact ⟨by rw [HE.out]; rfl, hBw⟩
  | false =>
    have d0 : w1.cell? ⟨w.heap.size, 0, .none⟩ = some (.int .u16 t.id) := (hB1.cell (by simp)).trans (cell_box _ _ _ _ _ rfl)
    have d1 : w1.cell? ⟨w.heap.size, 1, .none⟩ = some (.string t.space) := (hB1.cell (by simp)).trans (cell_box _ _ _ _ _ rfl)
    have d2 : w1.cell? ⟨w.heap.size, 2, .none⟩ = some (.string t.name) := (hB1.cell (by simp)).trans (cell_box _ _ _ _ _ rfl)
    have d3 : w1.cell? ⟨w.heap.size, 3, .none⟩ = some (.slice na nl nc) := (hB1.cell (by simp)).trans (cell_box _ _ _ _ _ rfl)
    have d4 : w1.cell? ⟨w.heap.size, 4, .none⟩ = some (.slice ka kl kc) := (hB1.cell (by simp)).trans (cell_box _ _ _ _ _ rfl)
    have hlt1 : w.heap.size < w1.heap.size := by have := hB1.size; simp at this; omega
    go_wp2_with fail
    refine (mayBe_any F n w1 t na nl nc ka kl kc (H.out.old hBw) (HT.out.old hBw) m HM.out).mono ?_
    rintro e w2 ⟨rfl, hB2⟩
    have hB02 : Below w.heap.size w w2 := hBw.trans (hB2.mono hBw.size)
    cases m with
    | false =>
      have HE : Hid (R = (⟨#[]⟩, 1)) := by show _ = _; rw [HR.out, textT, if_neg (by rw [← HD.out]; decide), if_neg (by rw [← HM.out]; decide)]
      go_wp2_with fail
      go_ret2
      exact ⟨by rw [HE.out]; rfl, hB02⟩
    | true =>
      obtain ⟨S, hS⟩ : ∃ S, S = txt (n + 1) t := ⟨_, rfl⟩
      have HS : Hid _ := hS
      have HE : Hid (R = (S, 0)) := by show _ = _; rw [HR.out, textT, if_neg (by rw [← HD.out]; decide), if_pos HM.out.symm, hS]
      have e0 : w2.cell? ⟨w.heap.size, 0, .none⟩ = some (.int .u16 t.id) := (hB2.cell hlt1).trans d0
      have e1 : w2.cell? ⟨w.heap.size, 1, .none⟩ = some (.string t.space) := (hB2.cell hlt1).trans d1
      have e2 : w2.cell? ⟨w.heap.size, 2, .none⟩ = some (.string t.name) := (hB2.cell hlt1).trans d2
      have e3 : w2.cell? ⟨w.heap.size, 3, .none⟩ = some (.slice na nl nc) := (hB2.cell hlt1).trans d3
      have e4 : w2.cell? ⟨w.heap.size, 4, .none⟩ = some (.slice ka kl kc) := (hB2.cell hlt1).trans d4
      clear hS
      go_wp2_with fail
      refine (typeText_any n F w2 t na nl nc ka kl kc (H.out.old hB02) (HT.out.old hB02) HM.out.symm HBD.out S HS.out).mono ?_
      rintro e w3 ⟨rfl, hB3⟩
      go_wp2_with fail
      go_ret2
      exact ⟨by rw [HE.out]; rfl, hB02.trans (hB3.mono hB02.size)⟩
end Go.Proofs.YtakaonfeegfmpaaDoor
