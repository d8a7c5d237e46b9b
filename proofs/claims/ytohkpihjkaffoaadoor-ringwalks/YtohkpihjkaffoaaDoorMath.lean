/-
  Mathematics of rings: places by rising tokens, the place that a token has, hosts once each.
-/
import Derived.Test.YtohkpihjkaffoaaDoorKp
namespace Go.Proofs.YtohkpihjkaffoaaDoor
set_option linter.unusedVariables false
set_option linter.unusedSimpArgs false

/-- A place: a token, and who has it. -/
abbrev Pl := Int × ByteArray

def empB (h : ByteArray) : Bool := decide (h.size = 0)
def empH (zs : List Pl) : Bool := zs.any (fun p => empB p.2)
def toks (zs : List Pl) : List Int := zs.map (·.1)
def dupT (zs : List Pl) : Bool := !decide ((toks zs).Nodup)
def Str (ps : List Pl) : Prop := ps.Pairwise (fun a b => a.1 < b.1)
def Srt (ps : List Pl) : Prop := ps.Pairwise (fun a b => a.1 ≤ b.1)

theorem dupT_false {zs : List Pl} : dupT zs = false ↔ (toks zs).Nodup := by simp [dupT]

theorem str_nodup {ps : List Pl} (h : Str ps) : (toks ps).Nodup := by
  unfold Str at h
  unfold toks
  rw [List.Nodup, List.pairwise_map]
  rw [List.pairwise_iff_getElem] at h ⊢
  intro i j hi hj hij
  have := h i j hi hj hij
  omega

theorem str_of {ps : List Pl} (h : Srt ps) (hn : (toks ps).Nodup) : Str ps := by
  unfold toks at hn
  rw [List.Nodup, List.pairwise_map] at hn
  unfold Srt at h
  unfold Str
  rw [List.pairwise_iff_getElem] at h hn ⊢
  intro i j hi hj hij
  have h1 := h i j hi hj hij
  have h2 := hn i j hi hj hij
  omega

theorem str_getD {ps : List Pl} (h : Str ps) {i j : Nat} (hij : i < j) (hj : j < ps.length) : (ps.getD i default).1 < (ps.getD j default).1 := by
  have := List.pairwise_iff_getElem.1 h i j (by omega) hj hij
  rw [List.getD_eq_getElem?_getD, List.getD_eq_getElem?_getD, List.getElem?_eq_getElem (by omega), List.getElem?_eq_getElem hj]
  exact this

theorem srt_getD {ps : List Pl} (h : Srt ps) {i j : Nat} (hij : i < j) (hj : j < ps.length) : (ps.getD i default).1 ≤ (ps.getD j default).1 := by
  have := List.pairwise_iff_getElem.1 h i j (by omega) hj hij
  rw [List.getD_eq_getElem?_getD, List.getD_eq_getElem?_getD, List.getElem?_eq_getElem (by omega), List.getElem?_eq_getElem hj]
  exact this

theorem getD_mem {α : Type} [Inhabited α] {l : List α} {i : Nat} (h : i < l.length) : l.getD i default ∈ l := by
  rw [List.getD_eq_getElem?_getD, List.getElem?_eq_getElem h]
  exact List.getElem_mem h

theorem mem_getD {α : Type} [Inhabited α] {l : List α} {x : α} (h : x ∈ l) : ∃ i, i < l.length ∧ l.getD i default = x := by
  obtain ⟨i, hi, he⟩ := List.getElem_of_mem h
  exact ⟨i, hi, by rw [List.getD_eq_getElem?_getD, List.getElem?_eq_getElem hi]; exact he⟩

theorem list_getD_ext {α : Type} [Inhabited α] {a b : List α} (hl : a.length = b.length) (h : ∀ i, i < a.length → a.getD i default = b.getD i default) : a = b := by
  apply List.ext_getElem hl
  intro i h1 h2
  have := h i h1
  rwa [List.getD_eq_getElem?_getD, List.getD_eq_getElem?_getD, List.getElem?_eq_getElem h1, List.getElem?_eq_getElem h2] at this

/-- Sorted, and no two neighbours alike: strictly so. -/
theorem str_of_near {ps : List Pl} (h : Srt ps) (hn : ∀ i, i + 1 < ps.length → (ps.getD i default).1 ≠ (ps.getD (i + 1) default).1) : Str ps := by
  unfold Str
  rw [List.pairwise_iff_getElem]
  intro i j hi hj hij
  have e : ∀ k (hk : k < ps.length), ps[k] = ps.getD k default := fun k hk => by rw [List.getD_eq_getElem?_getD, List.getElem?_eq_getElem hk]; rfl
  rw [e i hi, e j hj]
  have h1 := srt_getD h (i := i) (j := i + 1) (by omega) (by omega)
  have h2 := hn i (by omega)
  by_cases hj1 : j = i + 1
  · subst hj1; omega
  · have := srt_getD h (i := i + 1) (j := j) (by omega) hj
    omega

/-- Two that are strictly in order, of the same places, are one. -/
theorem str_unique : ∀ {a b : List Pl}, Str a → Str b → a.Perm b → a = b
  | [], b, _, _, hp => (List.nil_perm.1 hp).symm ▸ rfl
  | x :: a, [], _, _, hp => by have := hp.length_eq; simp at this
  | x :: a, y :: b, ha, hb, hp => by
    have ha' := List.pairwise_cons.1 ha
    have hb' := List.pairwise_cons.1 hb
    have hx : x ∈ y :: b := hp.subset (List.mem_cons_self ..)
    have hy : y ∈ x :: a := hp.symm.subset (List.mem_cons_self ..)
    have hxy : x = y := by
      rcases List.mem_cons.1 hx with e | e
      · exact e
      · rcases List.mem_cons.1 hy with e' | e'
        · exact e'.symm
        · have h1 := hb'.1 x e
          have h2 := ha'.1 y e'
          omega
    subst hxy
    rw [str_unique ha'.2 hb'.2 (List.perm_cons _ |>.1 hp)]

theorem toks_perm {a b : List Pl} (h : a.Perm b) : (toks a).Perm (toks b) := h.map _
theorem dupT_perm {a b : List Pl} (h : a.Perm b) : dupT a = dupT b := by
  unfold dupT
  rw [decide_eq_decide.2 (toks_perm h).nodup_iff]
theorem empH_perm {a b : List Pl} (h : a.Perm b) : empH a = empH b := by
  unfold empH
  rw [Bool.eq_iff_iff, List.any_eq_true, List.any_eq_true]
  exact ⟨fun ⟨x, hx, e⟩ => ⟨x, h.subset hx, e⟩, fun ⟨x, hx, e⟩ => ⟨x, h.symm.subset hx, e⟩⟩

/-- How many tokens are less; the place that a token has. -/
def atN (ps : List Pl) (t : Int) : Nat := ps.countP (fun p => decide (p.1 < t))
def fstN (ps : List Pl) (t : Int) : Nat := atN ps t % ps.length

theorem atN_le (ps : List Pl) (t : Int) : atN ps t ≤ ps.length := List.countP_le_length
theorem fstN_lt {ps : List Pl} (t : Int) (h : 0 < ps.length) : fstN ps t < ps.length := Nat.mod_lt _ h

theorem atN_cons (p : Pl) (ps : List Pl) (t : Int) : atN (p :: ps) t = atN ps t + (if p.1 < t then 1 else 0) := by
  unfold atN
  rw [List.countP_cons]
  by_cases h : p.1 < t <;> simp [h]

theorem atN_low : ∀ {ps : List Pl} (h : Str ps) (t : Int) {i : Nat}, i < atN ps t → (ps.getD i default).1 < t
  | [], _, t, i, hi => by simp [atN] at hi
  | p :: ps, h, t, i, hi => by
    have h' := List.pairwise_cons.1 h
    rw [atN_cons] at hi
    by_cases hp : p.1 < t
    · rw [if_pos hp] at hi
      cases i with
      | zero => exact hp
      | succ i =>
        have := atN_low (ps := ps) h'.2 t (i := i) (by omega)
        simpa using this
    · rw [if_neg hp] at hi
      have h0 := atN_low (ps := ps) h'.2 t (i := 0) (by omega)
      have hl := atN_le ps t
      have := h'.1 _ (getD_mem (l := ps) (i := 0) (by omega))
      omega

theorem atN_high : ∀ {ps : List Pl} (h : Str ps) (t : Int) {i : Nat}, atN ps t ≤ i → i < ps.length → t ≤ (ps.getD i default).1
  | [], _, t, i, _, hi => by simp at hi
  | p :: ps, h, t, i, hi, hl => by
    have h' := List.pairwise_cons.1 h
    rw [atN_cons] at hi
    simp only [List.length_cons] at hl
    by_cases hp : p.1 < t
    · rw [if_pos hp] at hi
      cases i with
      | zero => omega
      | succ i =>
        have := atN_high (ps := ps) h'.2 t (i := i) (by omega) (by omega)
        simpa using this
    · rw [if_neg hp] at hi
      cases i with
      | zero => show t ≤ p.1; omega
      | succ i =>
        have := h'.1 _ (getD_mem (l := ps) (i := i) (by omega))
        have e : (p :: ps).getD (i + 1) default = ps.getD i default := by simp
        rw [e]; omega

/-- The first place at which a token reaches is the place of the count. -/
theorem atN_is {ps : List Pl} (h : Str ps) (t : Int) {i : Nat} (hi : i ≤ ps.length) (hlow : ∀ j, j < i → (ps.getD j default).1 < t) (hhigh : i < ps.length → t ≤ (ps.getD i default).1) : atN ps t = i := by
  rcases Nat.lt_trichotomy (atN ps t) i with e | e | e
  · have := hlow _ e
    have := atN_high h t (i := atN ps t) (Nat.le_refl _) (by omega)
    omega
  · exact e
  · have := atN_low h t e
    have := hhigh (Nat.lt_of_lt_of_le e (atN_le ps t))
    omega

def hsts (ps : List Pl) : List ByteArray := ps.map (·.2)
def rot (ps : List Pl) (k : Nat) : List Pl := ps.drop k ++ ps.take k
def eqH (a b : ByteArray) : Bool := a.toList == b.toList
theorem eqH_iff {a b : ByteArray} : eqH a b = true ↔ a = b := by
  unfold eqH
  rw [beq_iff_eq]
  exact ⟨str_of_list, fun e => by rw [e]⟩
theorem eqH_self (a : ByteArray) : eqH a a = true := eqH_iff.2 rfl
def hasH (acc : List ByteArray) (h : ByteArray) : Bool := acc.any (fun y => eqH y h)
theorem hasH_iff {acc : List ByteArray} {h : ByteArray} : hasH acc h = true ↔ h ∈ acc := by
  unfold hasH
  rw [List.any_eq_true]
  exact ⟨fun ⟨x, hx, e⟩ => eqH_iff.1 e ▸ hx, fun hx => ⟨h, hx, eqH_self h⟩⟩
theorem hasH_no {acc : List ByteArray} {h : ByteArray} : hasH acc h = false ↔ ¬ h ∈ acc := by
  rw [← hasH_iff]; simp
def addH (acc : List ByteArray) (h : ByteArray) : List ByteArray := if hasH acc h = true then acc else acc ++ [h]
def ddG (acc l : List ByteArray) : List ByteArray := l.foldl addH acc
def ownH (ps : List Pl) (t : Int) : ByteArray := (ps.getD (fstN ps t) default).2
def walkL (ps : List Pl) (t : Int) : List ByteArray := ddG [] (hsts (rot ps (fstN ps t)))

theorem ddG_append (acc a b : List ByteArray) : ddG acc (a ++ b) = ddG (ddG acc a) b := by simp [ddG, List.foldl_append]
theorem ddG_nil (acc : List ByteArray) : ddG acc [] = acc := rfl
theorem ddG_snoc (acc l : List ByteArray) (h : ByteArray) : ddG acc (l ++ [h]) = addH (ddG acc l) h := by rw [ddG_append]; rfl
theorem addH_old {acc : List ByteArray} {h : ByteArray} (hm : h ∈ acc) : addH acc h = acc := if_pos (hasH_iff.2 hm)
theorem addH_new {acc : List ByteArray} {h : ByteArray} (hm : ¬ h ∈ acc) : addH acc h = acc ++ [h] := if_neg (fun e => hm (hasH_iff.1 e))

theorem addH_mem (acc : List ByteArray) (h x : ByteArray) : x ∈ addH acc h ↔ x ∈ acc ∨ x = h := by
  unfold addH
  split
  · rename_i hx
    exact ⟨Or.inl, fun e => e.elim id (fun e => e ▸ hasH_iff.1 hx)⟩
  · simp

theorem ddG_mem : ∀ (l acc : List ByteArray) (x : ByteArray), x ∈ ddG acc l ↔ x ∈ acc ∨ x ∈ l
  | [], acc, x => by simp [ddG]
  | h :: r, acc, x => by
    have := ddG_mem r (addH acc h) x
    show x ∈ ddG (addH acc h) r ↔ _
    rw [this, addH_mem, List.mem_cons, or_assoc]

theorem addH_nodup {acc : List ByteArray} (h : acc.Nodup) (x : ByteArray) : (addH acc x).Nodup := by
  unfold addH
  split
  · exact h
  · rename_i hx
    rw [List.nodup_append]
    exact ⟨h, by simp, fun a ha b hb e => by simp at hb; subst hb; subst e; exact hx (hasH_iff.2 ha)⟩

theorem ddG_nodup : ∀ (l : List ByteArray) {acc : List ByteArray}, acc.Nodup → (ddG acc l).Nodup
  | [], _, h => h
  | x :: r, _, h => ddG_nodup r (addH_nodup h x)

theorem addH_len (acc : List ByteArray) (x : ByteArray) : (addH acc x).length ≤ acc.length + 1 := by
  unfold addH; split <;> simp

theorem ddG_len : ∀ (l acc : List ByteArray), (ddG acc l).length ≤ acc.length + l.length
  | [], acc => by simp [ddG]
  | x :: r, acc => by
    have := ddG_len r (addH acc x)
    have := addH_len acc x
    show (ddG (addH acc x) r).length ≤ _
    simp only [List.length_cons]; omega

theorem addH_pre (acc : List ByteArray) (x : ByteArray) : ∃ s, addH acc x = acc ++ s := by
  unfold addH
  split
  · exact ⟨[], by simp⟩
  · exact ⟨[x], rfl⟩

theorem ddG_pre : ∀ (l acc : List ByteArray), ∃ s, ddG acc l = acc ++ s
  | [], acc => ⟨[], by simp [ddG]⟩
  | x :: r, acc => by
    obtain ⟨s, hs⟩ := addH_pre acc x
    obtain ⟨u, hu⟩ := ddG_pre r (addH acc x)
    exact ⟨s ++ u, by show ddG (addH acc x) r = _; rw [hu, hs, List.append_assoc]⟩

theorem rot_length (ps : List Pl) (k : Nat) : (rot ps k).length = ps.length := by
  unfold rot; simp; omega

theorem rot_mem (ps : List Pl) (k : Nat) (x : Pl) : x ∈ rot ps k ↔ x ∈ ps := by
  unfold rot
  rw [List.mem_append]
  have e : x ∈ ps ↔ x ∈ ps.take k ++ ps.drop k := by rw [List.take_append_drop]
  rw [e, List.mem_append, or_comm]

theorem rot_getD {ps : List Pl} {k i : Nat} (hk : k < ps.length) (hi : i < ps.length) : (rot ps k).getD i default = ps.getD ((k + i) % ps.length) default := by
  unfold rot
  rw [List.getD_eq_getElem?_getD, List.getD_eq_getElem?_getD]
  congr 1
  by_cases h : i < ps.length - k
  · rw [List.getElem?_append_left (by simp; omega), List.getElem?_drop, Nat.mod_eq_of_lt (by omega)]
  · rw [List.getElem?_append_right (by simp; omega), List.length_drop, List.getElem?_take]
    have : (k + i) % ps.length = i - (ps.length - k) := by
      rw [Nat.mod_eq_sub_mod (by omega), Nat.mod_eq_of_lt (by omega)]; omega
    rw [this, if_pos (by omega)]

theorem walkL_nil (t : Int) : walkL [] t = [] := rfl
theorem walkL_mem (ps : List Pl) (t : Int) (x : ByteArray) : x ∈ walkL ps t ↔ x ∈ hsts ps := by
  unfold walkL
  rw [ddG_mem]
  unfold hsts
  simp only [List.mem_map, List.not_mem_nil, false_or]
  exact ⟨fun ⟨p, hp, e⟩ => ⟨p, (rot_mem _ _ _).1 hp, e⟩, fun ⟨p, hp, e⟩ => ⟨p, (rot_mem _ _ _).2 hp, e⟩⟩
theorem walkL_nodup (ps : List Pl) (t : Int) : (walkL ps t).Nodup := ddG_nodup _ List.nodup_nil
theorem walkL_len (ps : List Pl) (t : Int) : (walkL ps t).length ≤ ps.length := by
  have := ddG_len (hsts (rot ps (fstN ps t))) []
  unfold walkL
  simp only [hsts, List.length_map, rot_length, List.length_nil] at this ⊢
  omega
theorem walkL_perm (ps : List Pl) (s t : Int) : (walkL ps s).Perm (walkL ps t) :=
  (List.perm_ext_iff_of_nodup (walkL_nodup ps s) (walkL_nodup ps t)).2 (fun x => by rw [walkL_mem, walkL_mem])
theorem walkL_len_eq (ps : List Pl) (s t : Int) : (walkL ps s).length = (walkL ps t).length := (walkL_perm ps s t).length_eq
theorem walkL_count (ps : List Pl) (s t : Int) {x : ByteArray} (h : x ∈ walkL ps s) : (walkL ps t).countP (fun y => eqH y x) = 1 := by
  have hm := (walkL_mem ps t x).2 ((walkL_mem ps s x).1 h)
  have hn := walkL_nodup ps t
  revert hm hn
  generalize walkL ps t = l
  intro hm hn
  induction l with
  | nil => cases hm
  | cons a r ih =>
    rw [List.nodup_cons] at hn
    rw [List.countP_cons]
    by_cases e : a = x
    · subst e
      have : r.countP (fun y => eqH y a) = 0 := by
        rw [List.countP_eq_zero]
        intro y hy he
        have : y = a := eqH_iff.1 he
        subst this; exact hn.1 hy
      simp [this, eqH_self]
    · rcases List.mem_cons.1 hm with e' | e'
      · exact absurd e'.symm e
      · have : eqH a x = false := by rw [Bool.eq_false_iff]; exact fun h => e (eqH_iff.1 h)
        rw [ih e' hn.2]; simp [this]

theorem walkL_head {ps : List Pl} (t : Int) (h : 0 < ps.length) : 0 < (walkL ps t).length ∧ (walkL ps t).getD 0 default = ownH ps t := by
  have hk := fstN_lt t h
  have h0 := rot_getD (i := 0) hk h
  rw [Nat.add_zero, Nat.mod_eq_of_lt hk] at h0
  unfold walkL ownH
  rw [← h0]
  have hl := rot_length ps (fstN ps t)
  revert hl
  generalize rot ps (fstN ps t) = l
  intro hl
  cases l with
  | nil => simp at hl; omega
  | cons p r =>
    obtain ⟨s, hs⟩ := ddG_pre (hsts r) (addH [] p.2)
    have : ddG [] (hsts (p :: r)) = [p.2] ++ s := by show ddG (addH [] p.2) (hsts r) = _; rw [hs]; rfl
    rw [this]
    exact ⟨by simp, by simp⟩

/-- Who has a token owns it. -/
theorem ownH_self {ps : List Pl} (h : Str ps) {p : Pl} (hp : p ∈ ps) : ownH ps p.1 = p.2 := by
  obtain ⟨i, hi, rfl⟩ := mem_getD hp
  have : atN ps (ps.getD i default).1 = i := atN_is h _ (by omega) (fun j hj => str_getD h hj hi) (fun _ => Int.le_refl _)
  unfold ownH fstN
  rw [this, Nat.mod_eq_of_lt hi]

/-- Tokens between two places on end, and the upper one, are the upper one's. -/
theorem ownH_arc {ps : List Pl} (h : Str ps) {k : Nat} (hk : k + 1 < ps.length) {t : Int} (h1 : (ps.getD k default).1 < t) (h2 : t ≤ (ps.getD (k + 1) default).1) : ownH ps t = (ps.getD (k + 1) default).2 := by
  have : atN ps t = k + 1 := atN_is h _ (by omega) (fun j hj => by
    by_cases e : j = k
    · subst e; exact h1
    · have := str_getD h (i := j) (j := k) (by omega) (by omega); omega) (fun _ => h2)
  unfold ownH fstN
  rw [this, Nat.mod_eq_of_lt hk]

theorem ownH_first {ps : List Pl} (h : Str ps) (hp : 0 < ps.length) {t : Int} (h1 : t ≤ (ps.getD 0 default).1) : ownH ps t = (ps.getD 0 default).2 := by
  have : atN ps t = 0 := atN_is h _ (by omega) (fun j hj => by omega) (fun _ => h1)
  unfold ownH fstN
  rw [this, Nat.zero_mod]
end Go.Proofs.YtohkpihjkaffoaaDoor
