/-
  The walk of OptionTexts.
-/
import Derived.Test.YtakaonfeegfmpaaDoorFew
import Derived.Test.YtakaonfeegfmpaaDoorDeep
namespace Go.Proofs.YtakaonfeegfmpaaDoor
open Go.RowKit
set_option linter.unusedVariables false
set_option linter.unusedSimpArgs false

def ofTwo (id : Int) (x y : Ty) : Ty := ⟨id, ⟨#[]⟩, ⟨#[]⟩, [], [x, y]⟩

/-- Two kids in a block. -/
theorem sees_two {n : Nat} {F : Nat → Prop} {w : World} {g : Nat} {x y : Ty} {na : Option Addr} {nl nc : Nat} {ka : Option Addr} {kl kc : Nat} {ma : Option Addr} {ml mc : Nat} {ja : Option Addr} {jl jc : Nat}
    (hb : w.heap[g]? = some (.cells #[.int .u16 x.id, .string x.space, .string x.name, .slice na nl nc, .slice ka kl kc, .int .u16 y.id, .string y.space, .string y.name, .slice ma ml mc, .slice ja jl jc] 26 (0, 0))) (hF : F g) (h : TyAt n F w x na nl nc ka kl kc) (k : TyAt n F w y ma ml mc ja jl jc) :
    Sees 5 F (VT (n + 1) F w) w (some ⟨g, 0, none⟩) 2 2 [x, y] := by
  refine ⟨rfl, Nat.le_refl _, by unfold maxLen; omega, (fun e => by cases e), fun hp => ⟨g, 0, rfl, (Array.getElem?_eq_some_iff.1 hb).1, hF, fun i z hz => ?_⟩⟩
  have hi : i = 0 ∨ i = 1 := by
    have := (List.getElem?_eq_some_iff.1 hz).1
    simp at this; omega
  rcases hi with rfl | rfl
  · obtain rfl : x = z := by simpa using hz
    refine ⟨_, fun j hj => ?_, h.vt⟩
    rw [Nat.zero_add, Nat.zero_mul, Nat.zero_add, Lib.cell_of_heap hb]
    rcases (show j = 0 ∨ j = 1 ∨ j = 2 ∨ j = 3 ∨ j = 4 by omega) with rfl | rfl | rfl | rfl | rfl <;> rfl
  · obtain rfl : y = z := by simpa using hz
    refine ⟨_, fun j hj => ?_, k.vt⟩
    rw [Nat.zero_add, Lib.cell_of_heap hb]
    rcases (show j = 0 ∨ j = 1 ∨ j = 2 ∨ j = 3 ∨ j = 4 by omega) with rfl | rfl | rfl | rfl | rfl <;> rfl

theorem Text_one {n : Nat} {F : Nat → Prop} {w W : World} {x : Ty} {na : Option Addr} {nl nc : Nat} {ka : Option Addr} {kl kc : Nat} (h : TyAt n F w x na nl nc ka kl kc) (hT : Tab w) (id : Int) (h0 : 0 ≤ id) (h1 : id < 65536) {g : Nat} (hg : w.heap.size = g)
    (hW : W = w.alloc (.cells #[.int .u16 x.id, .string x.space, .string x.name, .slice na nl nc, .slice ka kl kc] 26)) (hbd : tlen (n + 1) x ≤ 8796093022208) {R : ByteArray × Int} (hR : R = textT (n + 1) (ofOne id x)) :
    Calls Tryd.prog 14 #[.agg #[.int .u16 id, .string ⟨#[]⟩, .string ⟨#[]⟩, .slice none 0 0, .slice (some ⟨g, 0, none⟩) 1 1]] W fun e w' => e = .returned (.tuple #[.string R.1, .int .i64 R.2]) ∧ Below w.heap.size w w' := by
  subst hg hW
  have hty : TyAt (n + 1) (fun _ => True) (w.alloc (.cells #[.int .u16 x.id, .string x.space, .string x.name, .slice na nl nc, .slice ka kl kc] 26)) (ofOne id x) none 0 0 (some ⟨w.heap.size, 0, none⟩) 1 1 :=
    ⟨⟨h0, h1⟩, by unfold maxLen; show 0 ≤ _; omega, by unfold maxLen; show 0 ≤ _; omega, sees_nil _ _ _ _, sees_one (heap_alloc_new w _) trivial ((h.mono (G := fun _ => True) (fun k hk _ => ⟨trivial, rfl⟩) (Nat.le_refl _)).old (below_one w _))⟩
  refine (Text_any hty (hT.old (below_one _ _)) ?_ hR).mono ?_
  · simp only [tlen, ofOne, List.map_cons, List.map_nil, List.sum_cons, List.sum_nil] at hbd ⊢
    have : (⟨#[]⟩ : ByteArray).size = 0 := rfl
    omega
  · rintro e w' ⟨rfl, hB⟩
    exact ⟨rfl, (below_one w _).trans (hB.mono (by simp))⟩

theorem Text_two {n : Nat} {F : Nat → Prop} {w W : World} {x y : Ty} {na : Option Addr} {nl nc : Nat} {ka : Option Addr} {kl kc : Nat} {ma : Option Addr} {ml mc : Nat} {ja : Option Addr} {jl jc : Nat} (h : TyAt n F w x na nl nc ka kl kc) (k : TyAt n F w y ma ml mc ja jl jc) (hT : Tab w) (id : Int) (h0 : 0 ≤ id) (h1 : id < 65536) {g : Nat} (hg : w.heap.size = g)
    (hW : W = w.alloc (.cells #[.int .u16 x.id, .string x.space, .string x.name, .slice na nl nc, .slice ka kl kc, .int .u16 y.id, .string y.space, .string y.name, .slice ma ml mc, .slice ja jl jc] 26)) (hbd : tlen (n + 1) x ≤ 4398046511104) (hbd2 : tlen (n + 1) y ≤ 4398046511104) {R : ByteArray × Int} (hR : R = textT (n + 1) (ofTwo id x y)) :
    Calls Tryd.prog 14 #[.agg #[.int .u16 id, .string ⟨#[]⟩, .string ⟨#[]⟩, .slice none 0 0, .slice (some ⟨g, 0, none⟩) 2 2]] W fun e w' => e = .returned (.tuple #[.string R.1, .int .i64 R.2]) ∧ Below w.heap.size w w' := by
  subst hg hW
  have hty : TyAt (n + 1) (fun _ => True) (w.alloc (.cells #[.int .u16 x.id, .string x.space, .string x.name, .slice na nl nc, .slice ka kl kc, .int .u16 y.id, .string y.space, .string y.name, .slice ma ml mc, .slice ja jl jc] 26)) (ofTwo id x y) none 0 0 (some ⟨w.heap.size, 0, none⟩) 2 2 :=
    ⟨⟨h0, h1⟩, by unfold maxLen; show 0 ≤ _; omega, by unfold maxLen; show 0 ≤ _; omega, sees_nil _ _ _ _, sees_two (heap_alloc_new w _) trivial ((h.mono (G := fun _ => True) (fun k hk _ => ⟨trivial, rfl⟩) (Nat.le_refl _)).old (below_one w _)) ((k.mono (G := fun _ => True) (fun k hk _ => ⟨trivial, rfl⟩) (Nat.le_refl _)).old (below_one w _))⟩
  refine (Text_any hty (hT.old (below_one _ _)) ?_ hR).mono ?_
  · simp only [tlen, ofTwo, List.map_cons, List.map_nil, List.sum_cons, List.sum_nil] at hbd hbd2 ⊢
    have : (⟨#[]⟩ : ByteArray).size = 0 := rfl
    omega
  · rintro e w' ⟨rfl, hB⟩
    exact ⟨rfl, (below_one w _).trans (hB.mono (by simp))⟩

theorem deepB_kids {f : Nat} {t : Ty} (h : deepB (f + 1) t = false) : ∀ k ∈ t.kids, deepB f k = false := fun k hk => by
  rw [deepB] at h
  have := List.any_eq_false.1 h k hk
  simpa using this

theorem deep_up : ∀ (f : Nat) (t : Ty), deepB f t = false → deepB (f + 1) t = false
  | 0, t, h => by cases h
  | f + 1, t, h => by
    have hk := deepB_kids h
    rw [deepB]
    apply List.any_eq_false.2
    intro k hk2
    rw [deep_up f k (hk k hk2)]; decide

theorem textT_zero {n : Nat} {t : Ty} (h : (textT n t).2 = 0) : deepB 20 t = false ∧ mayB (n + 1) t = true ∧ textT n t = (txt (n + 1) t, 0) := by
  unfold textT at h ⊢
  by_cases h1 : deepB 20 t = true
  · rw [if_pos h1] at h; exact absurd (show (13 : Int) = 0 from h) (by decide)
  · rw [if_neg h1] at h ⊢
    by_cases h2 : mayB (n + 1) t = true
    · rw [if_pos h2]; exact ⟨by simpa using h1, h2, rfl⟩
    · rw [if_neg h2] at h; exact absurd (show (1 : Int) = 0 from h) (by decide)

theorem textT_of {n : Nat} {t : Ty} (h1 : deepB 20 t = false) (h2 : mayB (n + 1) t = true) : textT n t = (txt (n + 1) t, 0) := by
  rw [textT, if_neg (by rw [h1]; decide), if_pos h2]
theorem textT_deep {n : Nat} {t : Ty} (h1 : deepB 20 t = true) : textT n t = (⟨#[]⟩, 13) := by rw [textT, if_pos h1]

theorem deep_one (id : Int) (x : Ty) : deepB 20 (ofOne id x) = deepB 19 x := by
  show [x].any (deepB 19) = _
  simp
theorem deep_two (id : Int) (x y : Ty) : deepB 20 (ofTwo id x y) = (deepB 19 x || deepB 19 y) := by
  show [x, y].any (deepB 19) = _
  simp
theorem may_one {n : Nat} (id : Int) (h : id = 32 ∨ id = 34) (x : Ty) : mayB (n + 1) (ofOne id x) = mayB n x := by
  show (hasB id 1 0 && [x].all (mayB n)) = _
  have : hasB id 1 0 = true := by rw [hasB, if_neg (by omega), if_pos h]; rfl
  rw [this]; simp
theorem may_two {n : Nat} (id : Int) (h : id = 33 ∨ id = 49) (x y : Ty) : mayB (n + 1) (ofTwo id x y) = (mayB n x && mayB n y) := by
  show (hasB id 2 0 && [x, y].all (mayB n)) = _
  have : hasB id 2 0 = true := by rcases h with rfl | rfl <;> rfl
  rw [this]; simp

theorem join_one' (x : ByteArray) : joinT [x] = x := by
  show (⟨(Lib.join [x.data.toList] [44, 32]).toArray⟩ : ByteArray) = x
  rw [Lib.join_one]
theorem join_two (x y : ByteArray) : joinT [x, y] = (x ++ ⟨#[44, 32]⟩) ++ y := by
  apply ByteArray.ext
  apply Array.ext'
  show (Lib.join [x.data.toList, y.data.toList] [44, 32]).toArray.toList = _
  rw [Lib.join_cons]
  simp [Lib.joinTail, ByteArray.data_append]

theorem two_err {id : Int} (hid : id = 33 ∨ id = 49) {x y : Ty} (h : (textT 25 x).2 ≠ 0 ∨ (textT 25 y).2 ≠ 0) : (textT 26 (ofTwo id x y)).2 ≠ 0 := by
  intro h0
  obtain ⟨h1, h2, _⟩ := textT_zero h0
  rw [deep_two, Bool.or_eq_false_iff] at h1
  rw [may_two id hid, Bool.and_eq_true] at h2
  rcases h with h | h
  · exact h (by rw [textT_of (deep_up 19 x h1.1) h2.1])
  · exact h (by rw [textT_of (deep_up 19 y h1.2) h2.2])

theorem one_ok {id : Int} (hid : id = 32 ∨ id = 34) {x : Ty} (h : (textT 25 x).2 = 0) : textT 26 (ofOne id x) = if deepB 19 x = true then (⟨#[]⟩, 13) else (txt 27 (ofOne id x), 0) := by
  obtain ⟨h1, h2, _⟩ := textT_zero h
  by_cases hd : deepB 19 x = true
  · rw [if_pos hd, textT_deep (by rw [deep_one]; exact hd)]
  · rw [if_neg hd, textT_of (by rw [deep_one]; simpa using hd) (by rw [may_one id hid]; exact h2)]

theorem two_ok {id : Int} (hid : id = 33 ∨ id = 49) {x y : Ty} (h : (textT 25 x).2 = 0) (k : (textT 25 y).2 = 0) : textT 26 (ofTwo id x y) = if deepB 19 x = true ∨ deepB 19 y = true then (⟨#[]⟩, 13) else (txt 27 (ofTwo id x y), 0) := by
  obtain ⟨h1, h2, _⟩ := textT_zero h
  obtain ⟨k1, k2, _⟩ := textT_zero k
  by_cases hd : deepB 19 x = true ∨ deepB 19 y = true
  · rw [if_pos hd, textT_deep (by rw [deep_two, Bool.or_eq_true]; exact hd)]
  · rw [if_neg hd, textT_of (by rw [deep_two, Bool.or_eq_false_iff]; exact ⟨by simpa using fun e => hd (.inl e), by simpa using fun e => hd (.inr e)⟩) (by rw [may_two id hid, Bool.and_eq_true]; exact ⟨h2, k2⟩)]

theorem txt_list (x : Ty) : txt 27 (ofOne 32 x) = (⟨#[108, 105, 115, 116, 60]⟩ ++ txt 26 x) ++ ⟨#[62]⟩ := by
  rw [txt, if_neg (by show ¬ (32 : Int) = 0; decide), if_pos (by rfl)]
  show (_ ++ joinT [txt 26 x]) ++ _ = _
  rw [join_one']
theorem txt_set (x : Ty) : txt 27 (ofOne 34 x) = (⟨#[115, 101, 116, 60]⟩ ++ txt 26 x) ++ ⟨#[62]⟩ := by
  rw [txt, if_neg (by show ¬ (34 : Int) = 0; decide), if_neg (by show ¬ (34 : Int) = 32; decide), if_pos (by rfl)]
  show (_ ++ joinT [txt 26 x]) ++ _ = _
  rw [join_one']
theorem txt_map (x y : Ty) : txt 27 (ofTwo 33 x y) = ((((⟨#[109, 97, 112, 60]⟩ ++ txt 26 x) ++ ⟨#[44, 32]⟩) ++ txt 26 y) ++ ⟨#[62]⟩) := by
  rw [txt, if_neg (by show ¬ (33 : Int) = 0; decide), if_neg (by show ¬ (33 : Int) = 32; decide), if_neg (by show ¬ (33 : Int) = 34; decide), if_pos (by rfl)]
  show (_ ++ joinT [txt 26 x, txt 26 y]) ++ _ = _
  rw [join_two]
  simp only [ByteArray.append_assoc]
theorem txt_tuple (x y : Ty) : txt 27 (ofTwo 49 x y) = ((((⟨#[116, 117, 112, 108, 101, 60]⟩ ++ txt 26 x) ++ ⟨#[44, 32]⟩) ++ txt 26 y) ++ ⟨#[62]⟩) := by
  rw [txt, if_neg (by show ¬ (49 : Int) = 0; decide), if_neg (by show ¬ (49 : Int) = 32; decide), if_neg (by show ¬ (49 : Int) = 34; decide), if_neg (by show ¬ (49 : Int) = 33; decide), if_neg (by show ¬ (49 : Int) = 48; decide), if_pos (by rfl)]
  show (_ ++ joinT [txt 26 x, txt 26 y]) ++ _ = _
  rw [join_two]
  simp only [ByteArray.append_assoc]

/-- The two boxes' cells, in a later world. -/
theorem boxes {w W : World} {a b c d e a' b' c' d' e' : Value} (h : Below (w.heap.size + 2) ((w.alloc (.cells #[a, b, c, d, e] 26)).alloc (.cells #[a', b', c', d', e'] 26)) W) :
    (W.cell? ⟨w.heap.size, 0, none⟩ = some a ∧ W.cell? ⟨w.heap.size, 1, none⟩ = some b ∧ W.cell? ⟨w.heap.size, 2, none⟩ = some c ∧ W.cell? ⟨w.heap.size, 3, none⟩ = some d ∧ W.cell? ⟨w.heap.size, 4, none⟩ = some e) ∧
    (W.cell? ⟨w.heap.size + 1, 0, none⟩ = some a' ∧ W.cell? ⟨w.heap.size + 1, 1, none⟩ = some b' ∧ W.cell? ⟨w.heap.size + 1, 2, none⟩ = some c' ∧ W.cell? ⟨w.heap.size + 1, 3, none⟩ = some d' ∧ W.cell? ⟨w.heap.size + 1, 4, none⟩ = some e') ∧ w.heap.size + 1 < W.heap.size := by
  refine ⟨cells5 ?_, cells5 ?_, ?_⟩
  · rw [h.block _ (by omega), (below_one (w.alloc _) _).block _ (by simp)]
    exact heap_alloc_new w _
  · rw [h.block _ (by omega)]
    exact two_new _ _ _ _
  · have := h.size; simp at this; omega
end Go.Proofs.YtakaonfeegfmpaaDoor
