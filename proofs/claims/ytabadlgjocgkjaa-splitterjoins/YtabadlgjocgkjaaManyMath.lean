/-
  Frames in pieces: of the first bytes of frames that were joined, the first frames are told, and no error.
-/
import Derived.Test.YtabadlgjocgkjaaWrong
namespace Go.Proofs.Ytabadlgjocgkjaa
open Go.RowKit
set_option linter.unusedVariables false
set_option linter.unusedSimpArgs false

/-- What is told of the first P bytes of Q. -/
structure PartOf (ver : Int) (Q : List Int) (fs : List Fr) (P n : Nat) (R : List Int) : Prop where
  le : n ≤ fs.length
  told : spl ver (Q.take P) = (fs.take n, R, 0)

theorem part_of {ver : Int} {Q : List Int} {fs : List Fr} (hQ : spl ver Q = (fs, [], 0)) (P : Nat) : ∃ n R, PartOf ver Q fs P n R := by
  have e : Q.take P ++ Q.drop P = Q := List.take_append_drop P Q
  by_cases he : (spl ver (Q.take P)).2.2 = 0
  · have h := spl_app (ver := ver) (Q.drop P) _ (Q.take P) (Nat.le_refl _) he
    rw [e, hQ] at h
    have h1 : fs = (spl ver (Q.take P)).1 ++ (spl ver ((spl ver (Q.take P)).2.1 ++ Q.drop P)).1 := congrArg Prod.fst h
    refine ⟨(spl ver (Q.take P)).1.length, (spl ver (Q.take P)).2.1, ?_, ?_⟩
    · have h2 := congrArg List.length h1
      rw [List.length_append] at h2
      omega
    · have : fs.take (spl ver (Q.take P)).1.length = (spl ver (Q.take P)).1 := by
        generalize (spl ver ((spl ver (Q.take P)).2.1 ++ Q.drop P)).1 = more at h1
        rw [h1, List.take_left']
        rfl
      rw [this, ← he]
  · have h := spl_app_err (ver := ver) (Q.drop P) _ (Q.take P) (Nat.le_refl _) he
    rw [e, hQ] at h
    rw [← h] at he
    exact absurd rfl he

/-- The next piece. -/
theorem PartOf.next {ver : Int} {Q : List Int} {fs : List Fr} {P n : Nat} {R : List Int} (h : PartOf ver Q fs P n R) (hQ : spl ver Q = (fs, [], 0)) (T : Nat) (hT : P ≤ T) :
    ∃ n' R', PartOf ver Q fs T n' R' ∧ n ≤ n' ∧ spl ver (R ++ (Q.drop P).take (T - P)) = ((fs.drop n).take (n' - n), R', 0) := by
  obtain ⟨n', R', h'⟩ := part_of hQ T
  have e : Q.take T = Q.take P ++ (Q.drop P).take (T - P) := by
    have : T = P + (T - P) := by omega
    conv => lhs; rw [this, List.take_add]
  have ha := spl_app (ver := ver) ((Q.drop P).take (T - P)) _ (Q.take P) (Nat.le_refl _) (by rw [h.told])
  rw [← e, h'.told, h.told] at ha
  have h1 : fs.take n' = fs.take n ++ (spl ver (R ++ (Q.drop P).take (T - P))).1 := congrArg Prod.fst ha
  have h2 : (R', (0 : Int)) = (spl ver (R ++ (Q.drop P).take (T - P))).2 := congrArg Prod.snd ha
  have hn : n ≤ n' := by
    have := congrArg List.length h1
    rw [List.length_append, List.length_take, List.length_take] at this
    have := h.le; have := h'.le
    omega
  refine ⟨n', R', h', hn, ?_⟩
  have h3 : (spl ver (R ++ (Q.drop P).take (T - P))).1 = (fs.drop n).take (n' - n) := by
    have e2 : fs.take n' = fs.take n ++ (fs.drop n).take (n' - n) := by
      have : n' = n + (n' - n) := by omega
      conv => lhs; rw [this, List.take_add]
    rw [e2] at h1
    exact (List.append_cancel_left h1).symm
  rw [← h3, h2]

/-- In the end all are told. -/
theorem PartOf.all {ver : Int} {Q : List Int} {fs : List Fr} {P n : Nat} {R : List Int} (h : PartOf ver Q fs P n R) (hQ : spl ver Q = (fs, [], 0)) (hP : Q.length ≤ P) : n = fs.length ∧ R = [] := by
  have ht := h.told
  rw [List.take_of_length_le hP, hQ] at ht
  have h1 : fs = fs.take n := congrArg Prod.fst ht
  have h2 : ([] : List Int) = R := congrArg (fun x => x.2.1) ht
  refine ⟨?_, h2.symm⟩
  have := congrArg List.length h1
  rw [List.length_take] at this
  have := h.le
  omega

theorem PartOf.up {ver : Int} {Q : List Int} {fs : List Fr} {T P n : Nat} {R : List Int} (h : PartOf ver Q fs T n R) (ht : T = P ∨ (Q.length ≤ T ∧ Q.length ≤ P)) : PartOf ver Q fs P n R := by
  rcases ht with rfl | ⟨h1, h2⟩
  · exact h
  · refine ⟨h.le, ?_⟩
    have := h.told
    rw [List.take_of_length_le h1] at this
    rw [List.take_of_length_le h2]
    exact this

theorem part_zero (ver : Int) (Q : List Int) (fs : List Fr) : PartOf ver Q fs 0 0 [] := ⟨by omega, by rw [List.take_zero, List.take_zero]; rfl⟩

/-- A piece of a row of bytes. -/
theorem BRow.piece {w : World} {b off off' len cap : Nat} {zs : List Int} (h : BRow w b off len cap zs) (P T : Nat) (hP : P ≤ T) (hT : T ≤ len) (ho : P < cap → off' = off + P) : IsB w (some ⟨b, off', none⟩) (T - P) (cap - P) ((zs.drop P).take (T - P)) := by
  have hl := h.len_eq
  have hc := h.le
  have hm := h.cap_le
  refine ⟨by simp; omega, by omega, by omega, (fun e => by cases e), fun hp => ⟨b, off', rfl, by simp; omega, by omega, by omega, fun _ => h.lt (by omega), fun i hi => ?_, range_take (range_drop h.rng P) _⟩⟩
  rw [ho (by omega), Nat.add_assoc, h.cell (P + i) (by omega), List.getD_eq_getElem?_getD, List.getD_eq_getElem?_getD, List.getElem?_take_of_lt hi, List.getElem?_drop]

/-- One frame of a row of them. -/
theorem View.fr_at {w : World} {a : Option Addr} {len cap : Nat} {fs : List Fr} (h : View 6 VFr w a len cap fs) {i : Nat} (hi : i < len) :
    ∃ b off a' l cp, a = some ⟨b, off, none⟩ ∧ b < w.heap.size ∧ w.cell? ⟨b, off + (i * 6 + 0), none⟩ = some (.int .u8 (fs.getD i default).v) ∧ w.cell? ⟨b, off + (i * 6 + 1), none⟩ = some (.int .u8 (fs.getD i default).f) ∧ w.cell? ⟨b, off + (i * 6 + 2), none⟩ = some (.int .i16 (fs.getD i default).s) ∧
      w.cell? ⟨b, off + (i * 6 + 3), none⟩ = some (.int .u8 (fs.getD i default).o) ∧ w.cell? ⟨b, off + (i * 6 + 4), none⟩ = some (.int .u32 (fs.getD i default).l) ∧ w.cell? ⟨b, off + (i * 6 + 5), none⟩ = some (.slice a' l cp) ∧ IsB w a' l cp (fs.getD i default).b := by
  obtain ⟨h1, h2, h3, h4, h5⟩ := h
  obtain ⟨b, off, rfl, hb, hc⟩ := h5 (by omega)
  obtain ⟨c, hcell, k0, k1, k2, k3, k4, a', l, cp, k5, hI⟩ := hc i hi
  exact ⟨b, off, a', l, cp, rfl, hb, by rw [hcell 0 (by omega), k0], by rw [hcell 1 (by omega), k1], by rw [hcell 2 (by omega), k2], by rw [hcell 3 (by omega), k3], by rw [hcell 4 (by omega), k4], by rw [hcell 5 (by omega), k5], hI⟩

theorem frs_at {v f s o : Int} {xs : List (List Int)} {n d i : Nat} (hi : i < d) (hn : n + d ≤ xs.length) : (((frs v f s o xs).drop n).take d).getD i default = (v, f, s, o, ((xs.getD (n + i) default).length : Int), xs.getD (n + i) default) := by
  rw [List.getD_eq_getElem?_getD, List.getElem?_take_of_lt hi, List.getElem?_drop]
  unfold frs
  rw [List.getElem?_map, List.getElem?_eq_getElem (by omega), List.getD_eq_getElem?_getD, List.getElem?_eq_getElem (by omega)]
  rfl
end Go.Proofs.Ytabadlgjocgkjaa
