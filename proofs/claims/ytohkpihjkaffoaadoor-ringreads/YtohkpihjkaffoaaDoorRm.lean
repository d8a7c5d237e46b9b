/-
  Mathematics of Read: which texts are numbers, and which ones.
-/
import Derived.Test.YtohkpihjkaffoaaDoorKp
import Derived.Lib.ParseIntBTie
namespace Go.Proofs.YtohkpihjkaffoaaDoor
set_option linter.unusedVariables false
set_option linter.unusedSimpArgs false

abbrev isD (c : UInt8) : Prop := 48 ≤ c.toNat ∧ c.toNat ≤ 57
abbrev allD (l : List UInt8) : Prop := ∀ c ∈ l, isD c
/-- What digits spell, behind acc. -/
def valL (acc : Nat) (l : List UInt8) : Nat := l.foldl (fun a c => a * 10 + (c.toNat - 48)) acc
theorem valL_nil (acc : Nat) : valL acc [] = acc := rfl
theorem valL_cons (acc : Nat) (c : UInt8) (r : List UInt8) : valL acc (c :: r) = valL (acc * 10 + (c.toNat - 48)) r := by
  unfold valL
  rw [List.foldl_cons]

theorem allD_nil : allD [] := fun c h => absurd h (by simp)
theorem allD_cons {c : UInt8} {r : List UInt8} : allD (c :: r) ↔ isD c ∧ allD r := by simp [allD]
theorem allD_append {a b : List UInt8} : allD (a ++ b) ↔ allD a ∧ allD b := by
  simp only [allD, List.mem_append]
  exact ⟨fun h => ⟨fun c hc => h c (Or.inl hc), fun c hc => h c (Or.inr hc)⟩, fun h c hc => hc.elim (h.1 c) (h.2 c)⟩

theorem valL_ge (l : List UInt8) : ∀ (acc : Nat), acc ≤ valL acc l := by
  induction l with
  | nil => intro acc; exact Nat.le_refl _
  | cons c r ih =>
    intro acc
    have h := ih (acc * 10 + (c.toNat - 48))
    rw [valL_cons]
    omega

theorem valL_append (a b : List UInt8) (acc : Nat) : valL acc (a ++ b) = valL (valL acc a) b := by
  unfold valL
  rw [List.foldl_append]

theorem valL_acc (l : List UInt8) : ∀ (acc : Nat), valL acc l = acc * 10 ^ l.length + valL 0 l := by
  induction l with
  | nil => intro acc; simp [valL]
  | cons c r ih =>
    intro acc
    rw [valL_cons, valL_cons, ih (acc * 10 + (c.toNat - 48)), ih (0 * 10 + (c.toNat - 48)), List.length_cons]
    generalize c.toNat - 48 = d
    generalize valL 0 r = v
    rw [Nat.pow_succ]
    generalize 10 ^ r.length = e
    rw [Nat.add_mul, Nat.zero_mul, Nat.zero_add, Nat.mul_comm e 10, Nat.mul_assoc, Nat.add_assoc]

/-- What is in front counts by the place that it has. -/
theorem valL_cons0 (c : UInt8) (r : List UInt8) : valL 0 (c :: r) = (c.toNat - 48) * 10 ^ r.length + valL 0 r := by
  rw [valL_cons, valL_acc, Nat.zero_mul, Nat.zero_add]

theorem valL_zero_cons (r : List UInt8) : valL 0 (48 :: r) = valL 0 r := by rw [valL_cons0]; simp

def rdN (r : List UInt8) : Option Int := if r ≠ [] ∧ allD r ∧ valL 0 r ≤ 9223372036854775808 then some (-(valL 0 r : Nat)) else none
def rdP (r : List UInt8) : Option Int := if r ≠ [] ∧ allD r ∧ valL 0 r < 9223372036854775808 then some ((valL 0 r : Nat) : Int) else none
/-- The number of a text, as the document has it: none, if it is refused. -/
def rd : List UInt8 → Option Int
  | [] => none
  | c :: r => if c.toNat = 45 then rdN r else rdP (c :: r)

/-- Digits, and no more than a word holds. -/
theorem parseU (l : List UInt8) (acc u : Nat) (ha : acc ≤ 18446744073709551615) : Lib.parseUintM 18446744073709551615 acc l = .ok u ↔ allD l ∧ valL acc l = u ∧ u ≤ 18446744073709551615 := by
  induction l generalizing acc with
  | nil =>
    simp only [Lib.parseUintM, valL_nil]
    constructor
    · intro h; injection h with h; subst h; exact ⟨allD_nil, rfl, ha⟩
    · intro h; rw [h.2.1]
  | cons c r ih =>
    simp only [Lib.parseUintM, valL_cons]
    rw [allD_cons]
    by_cases hc : 48 ≤ c.toNat ∧ c.toNat ≤ 57
    · rw [if_pos hc]
      have hge := valL_ge r (acc * 10 + (c.toNat - 48))
      by_cases h1 : 1844674407370955162 ≤ acc
      · rw [if_pos h1]
        exact ⟨fun h => (by cases h), fun h => (by have := h.2.1; have := h.2.2; omega)⟩
      · rw [if_neg h1]
        by_cases h2 : 18446744073709551615 < acc * 10 + (c.toNat - 48)
        · rw [if_pos h2]
          exact ⟨fun h => (by cases h), fun h => (by have := h.2.1; have := h.2.2; omega)⟩
        · rw [if_neg h2, ih _ (by omega)]
          exact ⟨fun h => ⟨⟨hc, h.1⟩, h.2⟩, fun h => ⟨h.1.2, h.2⟩⟩
    · rw [if_neg hc]
      exact ⟨fun h => (by cases h), fun h => absurd h.1.1 hc⟩

theorem parseUB (l : List UInt8) (u : Nat) : Lib.parseUintB 64 l = .ok u ↔ l ≠ [] ∧ allD l ∧ valL 0 l = u ∧ u ≤ 18446744073709551615 := by
  have e : (2 : Nat) ^ 64 - 1 = 18446744073709551615 := by decide
  unfold Lib.parseUintB
  rw [e]
  by_cases hl : l = []
  · rw [if_pos hl]
    exact ⟨fun h => (by cases h), fun h => absurd hl h.1⟩
  · rw [if_neg hl, parseU l 0 u (Nat.zero_le _)]
    exact ⟨fun h => ⟨hl, h⟩, fun h => h.2⟩

/-- What ParseInt tells, without which error it is. -/
def optE : Lib.NumEnd Int → Option Int
  | .ok v => some v
  | _ => none

theorem signed_rd (r : List UInt8) : optE (Lib.signedC (2 ^ 63) (Lib.parseUintB 64 r)) = rdN r := by
  have e : (2 : Nat) ^ 63 = 9223372036854775808 := by decide
  rw [e]
  unfold rdN
  by_cases h : r ≠ [] ∧ allD r ∧ valL 0 r ≤ 9223372036854775808
  · rw [if_pos h, (parseUB r (valL 0 r)).2 ⟨h.1, h.2.1, rfl, by omega⟩]
    simp only [Lib.signedC]
    rw [if_neg (by omega)]
    rfl
  · rw [if_neg h]
    cases hp : Lib.parseUintB 64 r with
    | «syntax» => rfl
    | range => rfl
    | ok u =>
      have := (parseUB r u).1 hp
      simp only [Lib.signedC]
      rw [if_pos (by
        apply Nat.lt_of_not_le; intro hle
        exact h ⟨this.1, this.2.1, by rw [this.2.2.1]; exact hle⟩)]
      rfl

theorem signless_rd (r : List UInt8) : optE (Lib.signlessC (2 ^ 63) (Lib.parseUintB 64 r)) = rdP r := by
  have e : (2 : Nat) ^ 63 = 9223372036854775808 := by decide
  rw [e]
  unfold rdP
  by_cases h : r ≠ [] ∧ allD r ∧ valL 0 r < 9223372036854775808
  · rw [if_pos h, (parseUB r (valL 0 r)).2 ⟨h.1, h.2.1, rfl, by omega⟩]
    simp only [Lib.signlessC]
    rw [if_neg (by omega)]
    rfl
  · rw [if_neg h]
    cases hp : Lib.parseUintB 64 r with
    | «syntax» => rfl
    | range => rfl
    | ok u =>
      have := (parseUB r u).1 hp
      simp only [Lib.signlessC]
      rw [if_pos (by
        apply Nat.le_of_not_lt; intro hle
        exact h ⟨this.1, this.2.1, by rw [this.2.2.1]; exact hle⟩)]
      rfl

theorem u8_eq {c : UInt8} {n : Nat} (hn : n < 256) (h : c.toNat = n) : c = UInt8.ofNat n := by
  apply UInt8.toNat_inj.1
  rw [h]; simp; omega

/-- What ParseInt tells of a text that begins with no plus is what the document says. -/
theorem parse_rd (l : List UInt8) (hp : ∀ r, l ≠ 43 :: r) : optE (Lib.parseIntB 64 l) = rd l := by
  cases l with
  | nil => rfl
  | cons c r =>
    have h43 : c.toNat ≠ 43 := fun h => hp r (by rw [u8_eq (n := 43) (by decide) h]; rfl)
    by_cases h45 : c.toNat = 45
    · have hc : c = 45 := u8_eq (n := 45) (by decide) h45
      subst hc
      rw [Lib.parseIntB_minus, show 64 - 1 = 63 from rfl, signed_rd]
      rfl
    · rw [Lib.parseIntB_plain 64 c r h43 h45, show 64 - 1 = 63 from rfl, signless_rd]
      show rdP (c :: r) = if c.toNat = 45 then rdN r else rdP (c :: r)
      rw [if_neg h45]

theorem not_allD {c : UInt8} {l : List UInt8} (h : ¬ isD c) (hm : c ∈ l) : ¬ allD l := fun ha => h (ha c hm)

theorem rdN_bad {r : List UInt8} (h : ¬ allD r) : rdN r = none := by unfold rdN; rw [if_neg (fun hh => h hh.2.1)]
theorem rdP_bad {r : List UInt8} (h : ¬ allD r) : rdP r = none := by unfold rdP; rw [if_neg (fun hh => h hh.2.1)]

theorem rd_plus (r : List UInt8) : rd (43 :: r) = none := by
  show (if (43 : UInt8).toNat = 45 then rdN r else rdP (43 :: r)) = none
  rw [if_neg (by decide)]
  exact rdP_bad (not_allD (c := 43) (by decide) (List.mem_cons_self ..))

theorem rd_neg (r : List UInt8) : rd (45 :: r) = rdN r := rfl
theorem rd_pos {c : UInt8} {r : List UInt8} (h : isD c) : rd (c :: r) = rdP (c :: r) := by
  show (if c.toNat = 45 then rdN r else rdP (c :: r)) = _
  rw [if_neg (by unfold isD at h; omega)]

theorem rd_bounds {l : List UInt8} {v : Int} (h : rd l = some v) : -9223372036854775808 ≤ v ∧ v ≤ 9223372036854775807 := by
  cases l with
  | nil => cases h
  | cons c r =>
    have h : (if c.toNat = 45 then rdN r else rdP (c :: r)) = some v := h
    split at h
    · unfold rdN at h
      split at h
      · rename_i hh; injection h with h; omega
      · cases h
    · unfold rdP at h
      split at h
      · rename_i hh; injection h with h; omega
      · cases h


/-- A number's digits: a minus ahead, if it is below nought. -/
def DigL (n : Int) (D : List UInt8) : Prop :=
  ∃ L, allD L ∧ L ≠ [] ∧ valL 0 L = n.natAbs ∧ L.length ≤ 20 ∧ D = if n < 0 then 45 :: L else L

/-- The same with z noughts ahead of the digits. -/
def padL (n : Int) (z : Nat) (L : List UInt8) : List UInt8 := if n < 0 then 45 :: (List.replicate z 48 ++ L) else List.replicate z 48 ++ L

theorem pad_allD (z : Nat) {L : List UInt8} (h : allD L) : allD (List.replicate z 48 ++ L) := by
  rw [allD_append]
  exact ⟨fun c hc => by rw [(List.mem_replicate.1 hc).2]; decide, h⟩

theorem pad_val (z : Nat) (L : List UInt8) : valL 0 (List.replicate z 48 ++ L) = valL 0 L := by
  induction z with
  | zero => rfl
  | succ z ih => rw [List.replicate_succ, List.cons_append, valL_zero_cons, ih]

theorem pad_rd {n : Int} (h0 : -9223372036854775808 ≤ n) (h1 : n ≤ 9223372036854775807) (z : Nat) {L : List UInt8} (hd : allD L) (hne : L ≠ []) (hv : valL 0 L = n.natAbs) : rd (padL n z L) = some n := by
  have hv2 := pad_val z L
  have hd2 := pad_allD z hd
  have hne2 : List.replicate z 48 ++ L ≠ [] := by simp [hne]
  unfold padL
  generalize List.replicate z 48 ++ L = M at hv2 hd2 hne2 ⊢
  by_cases hn : n < 0
  · rw [if_pos hn, rd_neg]
    unfold rdN
    rw [if_pos ⟨hne2, hd2, by omega⟩]
    congr 1; omega
  · rw [if_neg hn]
    cases M with
    | nil => exact absurd rfl hne2
    | cons c r =>
      rw [rd_pos (allD_cons.1 hd2).1]
      unfold rdP
      rw [if_pos ⟨hne2, hd2, by omega⟩]
      congr 1; omega

/-- With a byte among them that is no digit, and isn't a minus ahead of all where none is, they are refused. -/
theorem bad_rd {n : Int} {D : List UInt8} (h : DigL n D) {k : Nat} (hk : k ≤ D.length) {c : UInt8} (hc : ¬ isD c) (hm : ¬ (c.toNat = 45 ∧ k = 0 ∧ 0 ≤ n)) : rd (D.take k ++ c :: D.drop k) = none := by
  cases k with
  | zero =>
    rw [List.take_zero, List.drop_zero, List.nil_append]
    show (if c.toNat = 45 then rdN D else rdP (c :: D)) = none
    by_cases h45 : c.toNat = 45
    · rw [if_pos h45]
      obtain ⟨L, _, _, _, _, rfl⟩ := h
      have hn : n < 0 := by
        rcases Int.lt_or_le n 0 with h | h
        · exact h
        · exact absurd ⟨h45, rfl, h⟩ hm
      rw [if_pos hn]
      exact rdN_bad (not_allD (c := 45) (by decide) (List.mem_cons_self ..))
    · rw [if_neg h45]
      exact rdP_bad (not_allD hc (List.mem_cons_self ..))
  | succ k =>
    cases D with
    | nil => simp at hk
    | cons d r =>
      rw [List.take_succ_cons, List.drop_succ_cons, List.cons_append]
      show (if d.toNat = 45 then rdN (r.take k ++ c :: r.drop k) else rdP (d :: (r.take k ++ c :: r.drop k))) = none
      have hin : c ∈ r.take k ++ c :: r.drop k := by simp
      split
      · exact rdN_bad (not_allD hc hin)
      · exact rdP_bad (not_allD hc (List.mem_cons_of_mem _ hin))

theorem dig_pad {n : Int} {D : List UInt8} (h : DigL n D) : ∃ L, allD L ∧ L ≠ [] ∧ valL 0 L = n.natAbs ∧ L.length ≤ 20 ∧ D = padL n 0 L := by
  obtain ⟨L, a, b, c, d, e⟩ := h
  exact ⟨L, a, b, c, d, by rw [e]; rfl⟩

theorem padL_succ_neg {n : Int} (h : n < 0) (z : Nat) (L : List UInt8) : padL n (z + 1) L = 45 :: 48 :: (padL n z L).drop 1 := by
  unfold padL
  rw [if_pos h, if_pos h]
  rfl

theorem padL_succ_pos {n : Int} (h : ¬ n < 0) (z : Nat) (L : List UInt8) : padL n (z + 1) L = 48 :: padL n z L := by
  unfold padL
  rw [if_neg h, if_neg h]
  rfl

theorem padL_len (n : Int) (z : Nat) (L : List UInt8) : (padL n z L).length = z + L.length + (if n < 0 then 1 else 0) := by
  unfold padL
  split <;> simp

/-- One digit more ahead. -/
theorem dig_step {m0 m i : Nat} {L : List UInt8} (h : m0 = m * 10 ^ i + valL 0 L) (hd : allD L) (hl : L.length = i) {c : UInt8} (hc : c.toNat = 48 + m % 10) :
    m0 = m / 10 * 10 ^ (i + 1) + valL 0 (c :: L) ∧ allD (c :: L) ∧ (c :: L).length = i + 1 := by
  refine ⟨?_, ?_, by rw [List.length_cons, hl]⟩
  · rw [valL_cons0, hl, hc, h, Nat.pow_succ, Nat.mul_comm (10 ^ i) 10, ← Nat.mul_assoc, ← Nat.add_assoc, ← Nat.add_mul]
    congr 2
    omega
  · rw [allD_cons]
    refine ⟨?_, hd⟩
    unfold isD
    omega

end Go.Proofs.YtohkpihjkaffoaaDoor
