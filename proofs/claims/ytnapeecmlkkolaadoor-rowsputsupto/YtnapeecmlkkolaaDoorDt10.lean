/-
  What is told of bytes from a place on, step by step; the contract of the document's own names.
-/
import Derived.Test.YtnapeecmlkkolaaDoorRefN
import Derived.Test.YtnapeecmlkkolaaDoorRefGet
import Derived.Test.YtnapeecmlkkolaaDoorAe
namespace Go.Proofs.YtnapeecmlkkolaaDoor
open Go.RowKit
set_option maxRecDepth 100000
set_option linter.unusedVariables false
set_option linter.unusedSimpArgs false

section
variable {α β γ : Type} {X : Res β} {zs : List Int} {d pos : Nat} {k : α → β}

/-- X is what is read from d on; of it P is left, from pos on, its value handed on by k. -/
def Reads (X : Res β) (zs : List Int) (d : Nat) (P : Ps α) (pos : Nat) (k : α → β) : Prop :=
  X.err = (P (zs.drop pos)).err ∧ (X.err = 0 → X.done + d = pos + (P (zs.drop pos)).done ∧ X.val = k (P (zs.drop pos)).val)

theorem reads_start (P : Ps β) (hX : X = P (zs.drop d)) : Reads X zs d P d id := by
  subst hX; exact ⟨rfl, fun _ => ⟨Nat.add_comm _ _, rfl⟩⟩

theorem reads_err {p : Ps γ} {f : γ → Ps α} (h : Reads X zs d (bindR p f) pos k) (he : (p (zs.drop pos)).err ≠ 0) : X.err = (p (zs.drop pos)).err := by
  rw [h.1]; unfold bindR; rw [if_neg he]

theorem reads_ok {p : Ps γ} {f : γ → Ps α} (h : Reads X zs d (bindR p f) pos k) (he : (p (zs.drop pos)).err = 0) : Reads X zs d (f (p (zs.drop pos)).val) (pos + (p (zs.drop pos)).done) k := by
  obtain ⟨h1, h2⟩ := h
  unfold bindR at h1 h2
  rw [if_pos he, List.drop_drop] at h1 h2
  by_cases hf : (f (p (zs.drop pos)).val (zs.drop (pos + (p (zs.drop pos)).done))).err = 0
  · rw [if_pos hf] at h1 h2
    refine ⟨h1.trans hf.symm, fun hx => ?_⟩
    obtain ⟨h3, h4⟩ := h2 hx
    exact ⟨by simp only at h3; omega, h4⟩
  · rw [if_neg hf] at h1 h2
    exact ⟨h1, fun hx => absurd (h1.symm.trans hx) hf⟩

theorem reads_pure {a : α} (h : Reads X zs d (pureR a) pos k) : X.err = 0 ∧ X.done + d = pos ∧ X.val = k a := by
  obtain ⟨h1, h2⟩ := h
  exact ⟨h1, (h2 h1).1, (h2 h1).2⟩

theorem reads_fail {a : α} {e : Int} (h : Reads X zs d (failR a e) pos k) : X.err = e := h.1

theorem reads_bfail {a : γ} {e : Int} {f : γ → Ps α} (h : Reads X zs d (bindR (failR a e) f) pos k) (he : e ≠ 0) : X.err = e := reads_err h he

theorem reads_bpure {a : γ} {f : γ → Ps α} (h : Reads X zs d (bindR (pureR a) f) pos k) : Reads X zs d (f a) pos k := reads_ok h rfl

/-- Two parsers that tell the same. -/
def Eqv (P Q : Ps α) : Prop := ∀ Z, (P Z).err = (Q Z).err ∧ ((P Z).err = 0 → (P Z).done = (Q Z).done ∧ (P Z).val = (Q Z).val)

theorem Eqv.trans {P Q R : Ps α} (h : Eqv P Q) (g : Eqv Q R) : Eqv P R := fun Z => ⟨(h Z).1.trans (g Z).1, fun e => by
  obtain ⟨h3, h4⟩ := (h Z).2 e
  obtain ⟨g3, g4⟩ := (g Z).2 ((h Z).1.symm.trans e)
  exact ⟨h3.trans g3, h4.trans g4⟩⟩

theorem Eqv.symm {P Q : Ps α} (h : Eqv P Q) : Eqv Q P := fun Z => ⟨(h Z).1.symm, fun e => by
  obtain ⟨h3, h4⟩ := (h Z).2 ((h Z).1.trans e)
  exact ⟨h3.symm, h4.symm⟩⟩

theorem reads_eqv {P Q : Ps α} (h : Reads X zs d P pos k) (he : Eqv P Q) : Reads X zs d Q pos k := by
  obtain ⟨h1, h2⟩ := h
  obtain ⟨e1, e2⟩ := he (zs.drop pos)
  refine ⟨h1.trans e1, fun hx => ?_⟩
  obtain ⟨h3, h4⟩ := h2 hx
  obtain ⟨e3, e4⟩ := e2 (h1.symm.trans hx)
  exact ⟨by rw [← e3]; exact h3, by rw [← e4]; exact h4⟩

theorem bind_congr {p : Ps γ} {f g : γ → Ps α} (h : ∀ x, Eqv (f x) (g x)) : Eqv (bindR p f) (bindR p g) := by
  intro Z
  unfold bindR
  by_cases hp : (p Z).err = 0
  · rw [if_pos hp, if_pos hp]
    obtain ⟨k1, k2⟩ := h (p Z).val (Z.drop (p Z).done)
    by_cases hf : (f (p Z).val (Z.drop (p Z).done)).err = 0
    · have hg := k1.symm.trans hf
      obtain ⟨k3, k4⟩ := k2 hf
      rw [if_pos hf, if_pos hg]
      exact ⟨rfl, fun _ => ⟨by simp only [k3], k4⟩⟩
    · have hg : ¬ (g (p Z).val (Z.drop (p Z).done)).err = 0 := fun e => hf (k1.trans e)
      rw [if_neg hf, if_neg hg]
      exact ⟨k1, fun e => absurd e hf⟩
  · rw [if_neg hp, if_neg hp]; exact ⟨rfl, fun e => absurd e hp⟩

theorem pure_bind {a : γ} {f : γ → Ps α} : Eqv (bindR (pureR a) f) (f a) := by
  intro Z
  unfold bindR pureR
  by_cases h : (f a Z).err = 0
  · simp [h]
  · simp [h]

theorem bind_assoc {δ : Type} (p : Ps δ) (f : δ → Ps γ) (g : γ → Ps α) : Eqv (bindR (bindR p f) g) (bindR p (fun x => bindR (f x) g)) := by
  intro Z
  unfold bindR
  by_cases h1 : (p Z).err = 0
  · by_cases h2 : (f (p Z).val (Z.drop (p Z).done)).err = 0
    · by_cases h3 : (g (f (p Z).val (Z.drop (p Z).done)).val (Z.drop ((p Z).done + (f (p Z).val (Z.drop (p Z).done)).done))).err = 0
      · simp [h1, h2, h3, List.drop_drop, Nat.add_assoc]
      · simp [h1, h2, h3, List.drop_drop]
    · simp [h1, h2]
  · simp [h1]

theorem reads_assoc {δ : Type} {p : Ps δ} {f : δ → Ps γ} {g : γ → Ps α} (h : Reads X zs d (bindR (bindR p f) g) pos k) : Reads X zs d (bindR p (fun x => bindR (f x) g)) pos k :=
  reads_eqv h (bind_assoc p f g)

/-- A round of a loop. -/
theorem reads_loop {p : Ps γ} {n : Nat} {f : List γ → Ps α} (h : Reads X zs d (bindR (loopR p (n + 1)) f) pos k) : Reads X zs d (bindR p (fun x => bindR (loopR p n) (fun l => f (x :: l)))) pos k :=
  reads_eqv (reads_assoc h) (bind_congr (fun x => (bind_assoc _ _ _).trans (bind_congr (fun l => pure_bind))))
end

theorem place_err {α : Type} {d : Nat} {X : Res α} (h : X.err ≠ 0) : place d X = 0 := if_neg h
theorem place_ok {α : Type} {d : Nat} {X : Res α} (h : X.err = 0) : place d X = ((d + X.done : Nat) : Int) := if_pos h

set_option maxHeartbeats 2000000 in
/-- The document's own names, from a place on. -/
theorem names_at {w : World} {a : Option Addr} {len cap : Nat} {zs : List Int} (h : IsB w a len cap zs) (d : Nat) (hd : d ≤ len) (p : Int) (hp : p = d) {X : Res (ByteArray × ByteArray)} (hX : X = ownerR (zs.drop d)) :
    Calls Tryd.prog 52 #[.slice a len cap, .int .i64 p] w fun e w' => ∃ s t, e = .returned (.tuple #[.agg #[.string s, .string t, .string ⟨#[]⟩, .int .u16 0, .string ⟨#[]⟩, .string ⟨#[]⟩, .slice none 0 0, .slice none 0 0], .int .i64 (place d X), .int .i64 X.err]) ∧
      Hid (X.err = 0 → X.val = (s, t)) ∧ Hid (X.err = 0 → d + X.done ≤ len) ∧ Below w.heap.size w w' := by
  subst hp
  have H : Hid (IsB w a len cap zs) := h
  have hzl := h.1
  have hR : Reads X zs d ownerR d id := reads_start ownerR hX
  obtain ⟨A, hA⟩ : ∃ A, A = textR (zs.drop d) := ⟨_, rfl⟩
  have HA : Hid (A = textR (zs.drop d)) := hA
  have hw2 : Below w.heap.size w ((w.alloc (.cells #[.string ⟨#[]⟩, .string ⟨#[]⟩, .string ⟨#[]⟩, .int .u16 0, .string ⟨#[]⟩, .string ⟨#[]⟩, .slice none 0 0, .slice none 0 0] 83)).alloc (.cells #[.string ⟨#[]⟩, .string ⟨#[]⟩, .string ⟨#[]⟩, .int .u16 0, .string ⟨#[]⟩, .string ⟨#[]⟩, .slice none 0 0, .slice none 0 0] 83)) := (below_one _ _).alloc (by simp) _
  have HW2 : Hid (IsB ((w.alloc (.cells #[.string ⟨#[]⟩, .string ⟨#[]⟩, .string ⟨#[]⟩, .int .u16 0, .string ⟨#[]⟩, .string ⟨#[]⟩, .slice none 0 0, .slice none 0 0] 83)).alloc (.cells #[.string ⟨#[]⟩, .string ⟨#[]⟩, .string ⟨#[]⟩, .int .u16 0, .string ⟨#[]⟩, .string ⟨#[]⟩, .slice none 0 0, .slice none 0 0] 83)) a len cap zs) := h.old hw2
  by_cases he : A.err = 0
  · have hd1 : d + A.done ≤ len := by have := textR_done he hA; rw [List.length_drop] at this; omega
    have hR2 := reads_ok hR (by rw [← hA]; exact he)
    rw [← hA] at hR2
    have HP1 : Hid (place d A = ((d + A.done : Nat) : Int)) := place_ok he
    have HE : Hid (A.err = 0) := he
    obtain ⟨C, hC⟩ : ∃ C, C = textR (zs.drop (d + A.done)) := ⟨_, rfl⟩
    have HC : Hid (C = textR (zs.drop (d + A.done))) := hC
    have HD1 : Hid (d + A.done ≤ len) := hd1
    have hw3 : Below w.heap.size w ((w.alloc (.cells #[.string ⟨#[]⟩, .string ⟨#[]⟩, .string ⟨#[]⟩, .int .u16 0, .string ⟨#[]⟩, .string ⟨#[]⟩, .slice none 0 0, .slice none 0 0] 83)).alloc (.cells #[.string A.val, .string ⟨#[]⟩, .string ⟨#[]⟩, .int .u16 0, .string ⟨#[]⟩, .string ⟨#[]⟩, .slice none 0 0, .slice none 0 0] 83)) := (below_one _ _).alloc (by simp) _
    have HW3 : Hid (IsB ((w.alloc (.cells #[.string ⟨#[]⟩, .string ⟨#[]⟩, .string ⟨#[]⟩, .int .u16 0, .string ⟨#[]⟩, .string ⟨#[]⟩, .slice none 0 0, .slice none 0 0] 83)).alloc (.cells #[.string A.val, .string ⟨#[]⟩, .string ⟨#[]⟩, .int .u16 0, .string ⟨#[]⟩, .string ⟨#[]⟩, .slice none 0 0, .slice none 0 0] 83)) a len cap zs) := h.old hw3
    by_cases hf : C.err = 0
    · have hd2 : d + A.done + C.done ≤ len := by have := textR_done hf hC; rw [List.length_drop] at this; omega
      have hR3 := reads_ok hR2 (by rw [← hC]; exact hf)
      rw [← hC] at hR3
      obtain ⟨r1, r2, r3⟩ := reads_pure hR3
      have HP2 : Hid (place (d + A.done) C = ((d + A.done + C.done : Nat) : Int)) := place_ok hf
      have HF : Hid (C.err = 0) := hf
      have HX1 : Hid (X.err = 0) := r1
      have HX2 : Hid (place d X = ((d + A.done + C.done : Nat) : Int)) := by show _ = _; rw [place_ok r1]; congr 1; omega
      have HX3 : Hid (X.err = 0 → X.val = (A.val, C.val)) := fun _ => r3
      have HX4 : Hid (X.err = 0 → d + X.done ≤ len) := fun _ => by omega
      clear hR hR2 hR3 r1 r2 r3 hX hA hC he hf hd1 hd2 hw2 hw3 h
      go_enter Tryd.func52, Tryd.ntmps52
      go_wp2_with fail
      refine (rgetText_at HW2.out d hd _ rfl HA.out).mono ?_
      rintro e w1 ⟨rfl, rfl⟩
      rw [HE.out, HP1.out]
      go_wp2_with fail
      refine (rgetText_at HW3.out (d + A.done) HD1.out _ rfl HC.out).mono ?_
      rintro e w1 ⟨rfl, rfl⟩
      rw [HF.out, HP2.out]
      go_wp2_with fail
      exact bodyPost_ret (v := .tuple #[.agg #[.string A.val, .string C.val, .string ⟨#[]⟩, .int .u16 0, .string ⟨#[]⟩, .string ⟨#[]⟩, .slice none 0 0, .slice none 0 0], .int .i64 (↑d + ↑A.done + ↑C.done), .int .i64 0]) (by simp [results, Tryd.results52, go_sem]) rfl
        ⟨A.val, C.val, by rw [HX1.out, HX2.out, Int.natCast_add, Int.natCast_add], HX3.out, HX4.out, (below_one _ _).alloc (by simp) _⟩
    · have hx := reads_err hR2 (by rw [← hC]; exact hf)
      rw [← hC] at hx
      have HX1 : Hid (X.err = C.err) := hx
      have HX2 : Hid (place d X = 0) := place_err (by rw [hx]; exact hf)
      have HX3 : Hid (X.err ≠ 0) := by rw [hx]; exact hf
      obtain ⟨ce, hce⟩ : ∃ ce, ce = C.err := ⟨_, rfl⟩
      have hce0 : (ce != 0) = true := by rw [hce]; simpa using hf
      have HCE : Hid (C.err = ce) := hce.symm
      have HCP : Hid (place (d + A.done) C = 0) := place_err hf
      clear hR hR2 hx hX hA hC he hf hd1 hw2 hw3 h hce
      go_enter Tryd.func52, Tryd.ntmps52
      go_wp2_with fail
      refine (rgetText_at HW2.out d hd _ rfl HA.out).mono ?_
      rintro e w1 ⟨rfl, rfl⟩
      rw [HE.out, HP1.out]
      go_wp2_with fail
      refine (rgetText_at HW3.out (d + A.done) HD1.out _ rfl HC.out).mono ?_
      rintro e w1 ⟨rfl, rfl⟩
      rw [HCE.out, HCP.out]
      go_wp2_with fail
      exact bodyPost_ret (v := .tuple #[.agg #[.string A.val, .string ⟨#[]⟩, .string ⟨#[]⟩, .int .u16 0, .string ⟨#[]⟩, .string ⟨#[]⟩, .slice none 0 0, .slice none 0 0], .int .i64 0, .int .i64 ce]) (by simp [results, Tryd.results52, go_sem]) rfl
        ⟨A.val, ⟨#[]⟩, by rw [HX1.out, HX2.out, HCE.out], fun e => absurd e HX3.out, fun e => absurd e HX3.out, (below_one _ _).alloc (by simp) _⟩
  · have hx := reads_err hR (by rw [← hA]; exact he)
    rw [← hA] at hx
    have HX1 : Hid (X.err = A.err) := hx
    have HX2 : Hid (place d X = 0) := place_err (by rw [hx]; exact he)
    have HX3 : Hid (X.err ≠ 0) := by rw [hx]; exact he
    obtain ⟨ce, hce⟩ : ∃ ce, ce = A.err := ⟨_, rfl⟩
    have hce0 : (ce != 0) = true := by rw [hce]; simpa using he
    have HCE : Hid (A.err = ce) := hce.symm
    have HCP : Hid (place d A = 0) := place_err he
    clear hR hx hX hA he hw2 h hce
    go_enter Tryd.func52, Tryd.ntmps52
    go_wp2_with fail
    refine (rgetText_at HW2.out d hd _ rfl HA.out).mono ?_
    rintro e w1 ⟨rfl, rfl⟩
    rw [HCE.out, HCP.out]
    go_wp2_with fail
    exact bodyPost_ret (v := .tuple #[.agg #[.string ⟨#[]⟩, .string ⟨#[]⟩, .string ⟨#[]⟩, .int .u16 0, .string ⟨#[]⟩, .string ⟨#[]⟩, .slice none 0 0, .slice none 0 0], .int .i64 0, .int .i64 ce]) (by simp [results, Tryd.results52, go_sem]) rfl
      ⟨⟨#[]⟩, ⟨#[]⟩, by rw [HX1.out, HX2.out, HCE.out], fun e => absurd e HX3.out, fun e => absurd e HX3.out, (below_one _ _).alloc (by simp) _⟩
end Go.Proofs.YtnapeecmlkkolaaDoor
