/-
  Frames out of bytes, as a function: what is told of all bytes that came, by definition; what it is of bytes in pieces, and of frames that were joined.
-/
import Derived.Test.YtabadlgjocgkjaaGetH
namespace Go.Proofs.Ytabadlgjocgkjaa
open Go.RowKit
set_option linter.unusedVariables false
set_option linter.unusedSimpArgs false

/-- A frame: version, flags, stream, opcode, length; its body's bytes. -/
abbrev Fr := Int × Int × Int × Int × Int × List Int
def Fr.v (x : Fr) : Int := x.1
def Fr.f (x : Fr) : Int := x.2.1
def Fr.s (x : Fr) : Int := x.2.2.1
def Fr.o (x : Fr) : Int := x.2.2.2.1
def Fr.l (x : Fr) : Int := x.2.2.2.2.1
def Fr.b (x : Fr) : List Int := x.2.2.2.2.2

/-- The error of a header that bytes begin with, for frames of a version. -/
def hE (ver : Int) (zs : List Int) : Int := if gE zs = 0 then (if zs.getD 0 0 = ver then 0 else 20) else gE zs
/-- How many bytes the body has. -/
def frL (zs : List Int) : Nat := (leng zs).toNat
/-- The frame that bytes begin with. -/
def fr (zs : List Int) : Fr := (zs.getD 0 0, zs.getD 1 0, strm zs, zs.getD 4 0, leng zs, (zs.drop 9).take (frL zs))

def sp (ver : Int) : Nat → List Int → List Fr × List Int × Int
  | 0, zs => ([], zs, 0)
  | n + 1, zs => if zs.length < 9 then ([], zs, 0) else if hE ver zs = 0 then (if zs.length < 9 + frL zs then ([], zs, 0) else
      (fr zs :: (sp ver n (zs.drop (9 + frL zs))).1, (sp ver n (zs.drop (9 + frL zs))).2)) else ([], [], hE ver zs)

def spl (ver : Int) (zs : List Int) : List Fr × List Int × Int := sp ver zs.length zs

theorem sp_fuel (ver : Int) : ∀ (n m : Nat) (zs : List Int), zs.length ≤ n → zs.length ≤ m → sp ver n zs = sp ver m zs := by
  intro n
  induction n with
  | zero =>
    intro m zs h _
    have hz : zs.length < 9 := by omega
    cases m with
    | zero => rfl
    | succ m => simp [sp, hz]
  | succ n ih =>
    intro m zs h hm
    cases m with
    | zero =>
      have hz : zs.length < 9 := by omega
      simp [sp, hz]
    | succ m =>
      unfold sp
      by_cases h9 : zs.length < 9
      · rw [if_pos h9, if_pos h9]
      · rw [if_neg h9, if_neg h9]
        rw [ih m (zs.drop (9 + frL zs)) (by simp; omega) (by simp; omega)]

theorem spl_less {ver : Int} {zs : List Int} (h : zs.length < 9) : spl ver zs = ([], zs, 0) := by
  unfold spl
  cases hn : zs.length with
  | zero => rfl
  | succ n => simp [sp, h]

theorem spl_wrong {ver : Int} {zs : List Int} (h : 9 ≤ zs.length) (he : hE ver zs ≠ 0) : spl ver zs = ([], [], hE ver zs) := by
  unfold spl
  cases hn : zs.length with
  | zero => omega
  | succ n => unfold sp; rw [if_neg (by omega), if_neg he]

theorem spl_waits {ver : Int} {zs : List Int} (h : 9 ≤ zs.length) (he : hE ver zs = 0) (hl : zs.length < 9 + frL zs) : spl ver zs = ([], zs, 0) := by
  unfold spl
  cases hn : zs.length with
  | zero => omega
  | succ n => unfold sp; rw [if_neg (by omega), if_pos he, if_pos hl]

theorem spl_step {ver : Int} {zs : List Int} (he : hE ver zs = 0) (hl : 9 + frL zs ≤ zs.length) :
    spl ver zs = (fr zs :: (spl ver (zs.drop (9 + frL zs))).1, (spl ver (zs.drop (9 + frL zs))).2) := by
  unfold spl
  cases hn : zs.length with
  | zero => omega
  | succ n =>
    have e : sp ver (n + 1) zs = if zs.length < 9 then ([], zs, 0) else if hE ver zs = 0 then (if zs.length < 9 + frL zs then ([], zs, 0) else
      (fr zs :: (sp ver n (zs.drop (9 + frL zs))).1, (sp ver n (zs.drop (9 + frL zs))).2)) else ([], [], hE ver zs) := rfl
    rw [e, if_neg (by omega), if_pos he, if_neg (by omega), sp_fuel ver n (zs.drop (9 + frL zs)).length _ (by simp; omega) (Nat.le_refl _)]

theorem getD_app {zs more : List Int} {j : Nat} (h : j < zs.length) : (zs ++ more).getD j 0 = zs.getD j 0 := by
  rw [List.getD_eq_getElem?_getD, List.getD_eq_getElem?_getD, List.getElem?_append_left h]

theorem leng_app {zs : List Int} (more : List Int) (h : 9 ≤ zs.length) : leng (zs ++ more) = leng zs := by
  unfold leng; rw [getD_app (by omega), getD_app (by omega), getD_app (by omega), getD_app (by omega)]
theorem strm_app {zs : List Int} (more : List Int) (h : 9 ≤ zs.length) : strm (zs ++ more) = strm zs := by
  unfold strm; rw [getD_app (by omega), getD_app (by omega)]
theorem gE_app {zs : List Int} (more : List Int) (h : 9 ≤ zs.length) : gE (zs ++ more) = gE zs := by
  rw [gE_long h, gE_long (by simp; omega), getD_app (by omega), getD_app (by omega), getD_app (by omega), leng_app _ h]
theorem hE_app {ver : Int} {zs : List Int} (more : List Int) (h : 9 ≤ zs.length) : hE ver (zs ++ more) = hE ver zs := by
  unfold hE; rw [gE_app _ h, getD_app (by omega)]
theorem frL_app {zs : List Int} (more : List Int) (h : 9 ≤ zs.length) : frL (zs ++ more) = frL zs := by
  unfold frL; rw [leng_app _ h]
theorem fr_app {zs : List Int} (more : List Int) (h : 9 + frL zs ≤ zs.length) : fr (zs ++ more) = fr zs := by
  unfold fr
  rw [getD_app (by omega), getD_app (by omega), getD_app (by omega), strm_app _ (by omega), leng_app _ (by omega), frL_app _ (by omega), List.drop_append_of_le_length (by omega), List.take_append_of_le_length (by simp; omega)]

/-- What is told of bytes in two pieces: behind an error nothing more. -/
theorem spl_app_err {ver : Int} (more : List Int) : ∀ (n : Nat) (zs : List Int), zs.length ≤ n → (spl ver zs).2.2 ≠ 0 → spl ver (zs ++ more) = spl ver zs := by
  intro n
  induction n with
  | zero =>
    intro zs h he
    rw [spl_less (by omega)] at he
    exact absurd rfl he
  | succ n ih =>
    intro zs h he
    by_cases h9 : zs.length < 9
    · rw [spl_less h9] at he; exact absurd rfl he
    · by_cases hh : hE ver zs = 0
      · by_cases hl : zs.length < 9 + frL zs
        · rw [spl_waits (by omega) hh hl] at he; exact absurd rfl he
        · rw [spl_step hh (by omega)] at he ⊢
          rw [spl_step (zs := zs ++ more) (by rw [hE_app _ (by omega)]; exact hh) (by rw [frL_app _ (by omega), List.length_append]; omega), frL_app _ (by omega), fr_app _ (by omega), List.drop_append_of_le_length (by omega),
            ih (zs.drop (9 + frL zs)) (by simp; omega) he]
      · rw [spl_wrong (by omega) hh, spl_wrong (by simp; omega) (by rw [hE_app _ (by omega)]; exact hh), hE_app _ (by omega)]

/-- .. else, what is told of the first, and then of what was left of it with the second. -/
theorem spl_app {ver : Int} (more : List Int) : ∀ (n : Nat) (zs : List Int), zs.length ≤ n → (spl ver zs).2.2 = 0 →
    spl ver (zs ++ more) = ((spl ver zs).1 ++ (spl ver ((spl ver zs).2.1 ++ more)).1, (spl ver ((spl ver zs).2.1 ++ more)).2) := by
  intro n
  induction n with
  | zero =>
    intro zs h he
    rw [spl_less (zs := zs) (by omega)]; rfl
  | succ n ih =>
    intro zs h he
    by_cases h9 : zs.length < 9
    · rw [spl_less (zs := zs) h9]; rfl
    · by_cases hh : hE ver zs = 0
      · by_cases hl : zs.length < 9 + frL zs
        · rw [spl_waits (zs := zs) (by omega) hh hl]; rfl
        · rw [spl_step (zs := zs) hh (by omega)] at he ⊢
          rw [spl_step (zs := zs ++ more) (by rw [hE_app _ (by omega)]; exact hh) (by rw [frL_app _ (by omega), List.length_append]; omega), frL_app _ (by omega), fr_app _ (by omega), List.drop_append_of_le_length (by omega),
            ih (zs.drop (9 + frL zs)) (by simp; omega) he]
          rfl
      · rw [spl_wrong (by omega) hh] at he; exact absurd he hh

/-- What is left is the end of what came, or nothing behind an error. -/
theorem spl_rest {ver : Int} : ∀ (n : Nat) (zs : List Int), zs.length ≤ n → (spl ver zs).2.1.length ≤ zs.length ∧ ((spl ver zs).2.2 = 0 → (spl ver zs).2.1 = zs.drop (zs.length - (spl ver zs).2.1.length)) ∧ ((spl ver zs).2.2 ≠ 0 → (spl ver zs).2.1 = []) ∧ (spl ver zs).1.length ≤ zs.length := by
  intro n
  induction n with
  | zero => intro zs h; rw [spl_less (by omega)]; simp
  | succ n ih =>
    intro zs h
    by_cases h9 : zs.length < 9
    · rw [spl_less h9]; simp
    · by_cases hh : hE ver zs = 0
      · by_cases hl : zs.length < 9 + frL zs
        · rw [spl_waits (by omega) hh hl]; simp
        · rw [spl_step hh (by omega)]
          obtain ⟨i1, i2, i3, i4⟩ := ih (zs.drop (9 + frL zs)) (by simp; omega)
          simp only [List.length_drop] at i1 i2 i4
          refine ⟨by show (spl ver (zs.drop (9 + frL zs))).2.1.length ≤ _; omega, fun he => ?_, i3, by simp only [List.length_cons]; omega⟩
          have := i2 he
          show (spl ver (zs.drop (9 + frL zs))).2.1 = zs.drop (zs.length - (spl ver (zs.drop (9 + frL zs))).2.1.length)
          generalize hr : (spl ver (zs.drop (9 + frL zs))).2.1 = r at *
          rw [this, List.drop_drop]
          congr 1
          simp only [List.length_drop]
          omega
      · rw [spl_wrong (by omega) hh]; simp [hh]

theorem hd_strm {v f s o l : Int} (h : HOk v f s o l) (Z : List Int) : strm (hdB v f s o l ++ Z) = s := by
  have := h.s0; have := h.s1
  show sgn (s % 65536 / 256 * 256 + s % 256) 2 = s
  unfold sgn
  simp only [show 8 * 2 - 1 = 15 from rfl, show 8 * 2 = 16 from rfl]
  split <;> omega

theorem hd_leng {v f s o l : Int} (h : HOk v f s o l) (Z : List Int) : leng (hdB v f s o l ++ Z) = l := by
  have := h.l0; have := h.l1
  show ((l / 16777216 % 256 * 256 + l / 65536 % 256) * 256 + l / 256 % 256) * 256 + l % 256 = l
  omega

theorem hd_gE {v f s o l : Int} (h : HOk v f s o l) (Z : List Int) : gE (hdB v f s o l ++ Z) = chk v f o l := by
  rw [gE_long (by rw [List.length_append, hdB_len]; omega), hd_leng h]; rfl

/-- A frame's bytes. -/
def jB (x : Fr) : List Int := hdB x.v x.f x.s x.o x.l ++ x.b
/-- A frame that can be joined, of the version. -/
structure FOk (ver : Int) (x : Fr) : Prop where
  ok : HOk x.v x.f x.s x.o x.l
  chk0 : chk x.v x.f x.o x.l = 0
  len : x.l = x.b.length
  ver : x.v = ver

theorem jB_len (x : Fr) : (jB x).length = 9 + x.b.length := by unfold jB; rw [List.length_append, hdB_len]

/-- A frame that was joined, and whatever is behind it. -/
theorem spl_join {ver : Int} {x : Fr} (h : FOk ver x) (Z : List Int) : spl ver (jB x ++ Z) = (x :: (spl ver Z).1, (spl ver Z).2) := by
  obtain ⟨ok, c0, hl, hv⟩ := h
  have hL : leng (jB x ++ Z) = x.l := by unfold jB; rw [List.append_assoc]; exact hd_leng ok _
  have hF : frL (jB x ++ Z) = x.b.length := by unfold frL; rw [hL, hl]; rfl
  have hg : gE (jB x ++ Z) = 0 := by unfold jB; rw [List.append_assoc, hd_gE ok]; exact c0
  have h0 : hE ver (jB x ++ Z) = 0 := by
    unfold hE; rw [if_pos hg, if_pos]
    rw [← hv]; rfl
  have hlen := jB_len x
  rw [spl_step h0 (by rw [hF, List.length_append]; omega), hF]
  have hd : (jB x ++ Z).drop (9 + x.b.length) = Z := by rw [List.drop_append_of_le_length (by omega), List.drop_of_length_le (by omega)]; rfl
  have hf : fr (jB x ++ Z) = x := by
    have h9 : (jB x ++ Z).drop 9 = x.b ++ Z := by unfold jB; rw [List.append_assoc]; rfl
    have hS : strm (jB x ++ Z) = x.s := by unfold jB; rw [List.append_assoc]; exact hd_strm ok _
    unfold fr
    rw [hL, hS, hF, h9, List.take_left']
    · rfl
    · rfl
  rw [hd, hf]

def joinL (l : List Fr) : List Int := (l.map jB).flatten

theorem spl_joins {ver : Int} : ∀ (l : List Fr), (∀ x ∈ l, FOk ver x) → ∀ Z, spl ver (joinL l ++ Z) = (l ++ (spl ver Z).1, (spl ver Z).2) := by
  intro l
  induction l with
  | nil => intro _ Z; rfl
  | cons x l ih =>
    intro h Z
    have e : joinL (x :: l) ++ Z = jB x ++ (joinL l ++ Z) := by simp [joinL]
    rw [e, spl_join (h x (by simp)), ih (fun y hy => h y (by simp [hy]))]
    rfl

/-- Frames of any bytes: their fields fit, and their bodies are bytes. -/
theorem leng_max {zs : List Int} (h : gE zs = 0) : leng zs ≤ 1048576 := by
  unfold gE at h
  by_cases h9 : zs.length < 9
  · rw [if_pos h9] at h; omega
  · rw [if_neg h9] at h
    unfold chk at h
    repeat (split at h; omega)
    omega
end Go.Proofs.Ytabadlgjocgkjaa
