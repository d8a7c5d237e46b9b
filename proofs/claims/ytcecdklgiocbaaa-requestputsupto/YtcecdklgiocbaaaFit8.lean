/-
  Requests that are short enough to be put: those that came in, those that are got again, those that are read of few bytes.
-/
import Derived.Test.YtcecdklgiocbaaaBnd8
namespace Go.Proofs.Ytcecdklgiocbaaa
open Go.RowKit
set_option maxRecDepth 100000
set_option linter.unusedVariables false
set_option linter.unusedSimpArgs false

theorem costV_le {M : Nat} : ∀ vs : List Vl, (∀ y ∈ vs, y.2.size ≤ M) → costV vs ≤ vs.length * (M + 4)
  | [], _ => Nat.zero_le _
  | x :: r, h => by
    have h1 := h x List.mem_cons_self
    have h2 := costV_le r (fun y hy => h y (List.mem_cons_of_mem _ hy))
    rw [costV, List.length_cons, Nat.succ_mul]
    omega
theorem costN_le {M : Nat} : ∀ vs : List ByteArray, (∀ y ∈ vs, y.size ≤ M) → costN vs ≤ vs.length * (M + 4)
  | [], _ => Nat.zero_le _
  | x :: r, h => by
    have h1 := h x List.mem_cons_self
    have h2 := costN_le r (fun y hy => h y (List.mem_cons_of_mem _ hy))
    rw [costN, List.length_cons, Nat.succ_mul]
    omega
theorem costA_le {K : Nat} : ∀ ss : List St, (∀ s ∈ ss, costS s ≤ K) → costA ss ≤ ss.length * K
  | [], _ => Nat.zero_le _
  | x :: r, h => by
    have h1 := h x List.mem_cons_self
    have h2 := costA_le r (fun y hy => h y (List.mem_cons_of_mem _ hy))
    rw [costA, List.length_cons, Nat.succ_mul]
    omega

/-- What few bytes told may be put. -/
theorem fit_sh {n : Nat} (hn : n ≤ 2000) {r : Rq} (h : ShQ n r) : FitQ r := by
  have hs : ∀ s ∈ r.all, costS s ≤ 140000000 := fun s hs => by
    obtain ⟨h1, h2, h3, h4⟩ := h.all s hs
    have h5 := costV_le s.vals h4
    have h6 : s.vals.length * (n + 4) ≤ 65535 * 2004 := Nat.mul_le_mul h3 (by omega)
    unfold costS
    omega
  have ha := costA_le r.all hs
  have ha2 : r.all.length * 140000000 ≤ 65535 * 140000000 := Nat.mul_le_mul_right _ h.al
  have hv := costV_le r.run.vals h.run.vs
  have hv2 : r.run.vals.length * (n + 4) ≤ 65535 * 2004 := Nat.mul_le_mul h.run.vl (by omega)
  have hm := costN_le r.run.names h.run.ns
  have hm2 : r.run.names.length * (n + 4) ≤ 65535 * 2004 := Nat.mul_le_mul h.run.nl (by omega)
  have h1 := h.text
  have h2 := h.id
  have h3 := h.run.st
  have h4 := h.tok
  refine ⟨fun y hy => ?_, ⟨fun y hy => ?_, fun y hy => ?_, by omega⟩, fun y hy => ?_, by omega, fun s hs y hy => ?_, ?_⟩
  · have := h.opts y hy; unfold maxLen; omega
  · have := h.run.vs y hy; omega
  · have := h.run.ns y hy; omega
  · have := h.evs y hy; unfold maxLen; omega
  · have := (h.all s hs).vs y hy; omega
  · unfold costR; omega

/-- What is not many, and came in within the bound, may be put. -/
structure Slight (r : Rq) : Prop where
  vals : r.run.vals.length < 100
  names : r.run.names.length < 100
  al : r.all.length < 100
  all : ∀ s ∈ r.all, s.vals.length < 100

theorem fit_sm {r : Rq} (h : Sm r) (hs : Slight r) : FitQ r := by
  have hs1 : ∀ s ∈ r.all, costS s ≤ 110000000 := fun s hm => by
    obtain ⟨h1, h2, _, h4⟩ := h.all s hm
    have h3 := hs.all s hm
    have h5 := costV_le s.vals h4
    have h6 : s.vals.length * (1048576 + 4) ≤ 100 * 1048580 := Nat.mul_le_mul (by omega) (by omega)
    unfold costS
    omega
  have ha := costA_le r.all hs1
  have ha2 : r.all.length * 110000000 ≤ 100 * 110000000 := Nat.mul_le_mul_right _ (Nat.le_of_lt hs.al)
  have hv := costV_le r.run.vals h.vals
  have hv2 : r.run.vals.length * (1048576 + 4) ≤ 100 * 1048580 := Nat.mul_le_mul (Nat.le_of_lt hs.vals) (by omega)
  have hm := costN_le r.run.names h.names
  have hm2 : r.run.names.length * (1048576 + 4) ≤ 100 * 1048580 := Nat.mul_le_mul (Nat.le_of_lt hs.names) (by omega)
  have h1 := h.text
  have h2 := h.id
  have h3 := h.state
  have h4 := h.tok
  refine ⟨fun y hy => ?_, ⟨fun y hy => ?_, fun y hy => ?_, by omega⟩, fun y hy => ?_, by omega, fun s hs y hy => ?_, ?_⟩
  · have := h.opts y hy; unfold maxLen; omega
  · have := h.vals y hy; omega
  · have := h.names y hy; omega
  · have := h.evs y hy; unfold maxLen; omega
  · have := (h.all s hs).2.2.2 y hy; omega
  · unfold costR; omega

theorem nV_size (x : Vl) : (nV x).2.size ≤ x.2.size := by
  unfold nV
  split
  · exact Nat.le_refl _
  · exact Nat.zero_le _
theorem costV_n : ∀ vs : List Vl, costV (vs.map nV) ≤ costV vs
  | [] => Nat.le_refl _
  | x :: r => by
    have := nV_size x
    have := costV_n r
    rw [List.map_cons, costV, costV]
    omega
theorem costS_n (s : St) : costS (nS s) ≤ costS s := by
  have := costV_n s.vals
  unfold nS
  split
  · show ByteArray.empty.size + s.id.size + 16 + costV (s.vals.map nV) ≤ _
    have : ByteArray.empty.size = 0 := rfl
    unfold costS
    omega
  · show s.text.size + ByteArray.empty.size + 16 + costV (s.vals.map nV) ≤ _
    have : ByteArray.empty.size = 0 := rfl
    unfold costS
    omega
theorem costA_n : ∀ ss : List St, costA (ss.map nS) ≤ costA ss
  | [] => Nat.le_refl _
  | x :: r => by
    have := costS_n x
    have := costA_n r
    rw [List.map_cons, costA, costA]
    omega
theorem fitR_n {p : Rn} (h : FitR p) : FitR (nR p) ∧ costR (nR p) ≤ costR p := by
  have hst : (nR p).state.2.size ≤ p.state.2.size := by
    show (if p.resumed then nV p.state else default : Vl).2.size ≤ _
    split
    · exact nV_size _
    · exact Nat.zero_le _
  refine ⟨⟨fun y hy => ?_, h.2.1, Nat.le_trans hst h.2.2⟩, ?_⟩
  · obtain ⟨z, hz, rfl⟩ := List.mem_map.1 (show y ∈ p.vals.map nV from hy)
    exact Nat.le_trans (nV_size z) (h.1 z hz)
  · have := costV_n p.vals
    show 32 + costV (p.vals.map nV) + costN p.names + (nR p).state.2.size ≤ 32 + costV p.vals + costN p.names + p.state.2.size
    omega

theorem fitR_0 : FitR (default : Rn) := ⟨fun y hy => (by cases hy), fun y hy => (by cases hy), Nat.zero_le _⟩
theorem costR_0 : costR (default : Rn) = 32 := rfl

theorem costR_ge (p : Rn) : 32 ≤ costR p := by unfold costR; omega

/-- What is got again may be put. -/
theorem fit_n {r : Rq} (h : FitQ r) : FitQ (nQ r) := by
  obtain ⟨o, R, ev, tk, al, co⟩ := h
  obtain ⟨R1, R2⟩ := fitR_n R
  have hA := costA_n r.all
  have g32 := costR_ge r.run
  have e0 : ByteArray.empty.size = 0 := rfl
  have none1 : ∀ y ∈ ([] : List (ByteArray × ByteArray)), y.1.size ≤ maxLen ∧ y.2.size ≤ maxLen := fun y hy => (by cases hy)
  have none2 : ∀ y ∈ ([] : List ByteArray), y.size ≤ maxLen := fun y hy => (by cases hy)
  have none3 : ∀ s ∈ ([] : List St), ∀ y ∈ s.vals, y.2.size ≤ 140737488351232 := fun y hy => (by cases hy)
  have all3 : ∀ s ∈ r.all.map nS, ∀ y ∈ s.vals, y.2.size ≤ 140737488351232 := fun s hs y hy => by
    obtain ⟨z, hz, rfl⟩ := List.mem_map.1 hs
    have hy2 : y ∈ z.vals.map nV := by
      unfold nS at hy
      split at hy
      · exact hy
      · exact hy
    obtain ⟨q, hq, rfl⟩ := List.mem_map.1 hy2
    exact Nat.le_trans (nV_size q) (al z hz q hq)
  have nt : (nV r.tok).2.size ≤ 140737488351232 := Nat.le_trans (nV_size _) tk
  unfold nQ
  repeat' split
  · exact ⟨o, fitR_0, none2, Nat.zero_le _, none3, by show 16 + ByteArray.empty.size + ByteArray.empty.size + costR (default : Rn) + 0 ≤ _; rw [e0, costR_0]; omega⟩
  · exact ⟨none1, fitR_0, none2, Nat.zero_le _, none3, by show 16 + ByteArray.empty.size + ByteArray.empty.size + costR (default : Rn) + 0 ≤ _; rw [e0, costR_0]; omega⟩
  · exact ⟨none1, R1, none2, Nat.zero_le _, none3, by show 16 + r.text.size + ByteArray.empty.size + costR (nR r.run) + 0 ≤ _; rw [e0]; omega⟩
  · exact ⟨none1, fitR_0, none2, Nat.zero_le _, none3, by show 16 + r.text.size + ByteArray.empty.size + costR (default : Rn) + 0 ≤ _; rw [e0, costR_0]; omega⟩
  · exact ⟨none1, R1, none2, Nat.zero_le _, none3, by show 16 + ByteArray.empty.size + r.id.size + costR (nR r.run) + 0 ≤ _; rw [e0]; omega⟩
  · exact ⟨none1, fitR_0, ev, Nat.zero_le _, none3, by show 16 + ByteArray.empty.size + ByteArray.empty.size + costR (default : Rn) + 0 ≤ _; rw [e0, costR_0]; omega⟩
  · exact ⟨none1, fitR_0, none2, nt, none3, by show 16 + ByteArray.empty.size + ByteArray.empty.size + costR (default : Rn) + 0 ≤ _; rw [e0, costR_0]; omega⟩
  · exact ⟨none1, R1, none2, Nat.zero_le _, all3, by show 16 + ByteArray.empty.size + ByteArray.empty.size + costR (nR r.run) + costA (r.all.map nS) ≤ _; rw [e0]; omega⟩
  · exact ⟨none1, fitR_0, none2, Nat.zero_le _, none3, by show 16 + ByteArray.empty.size + ByteArray.empty.size + costR (default : Rn) + 0 ≤ _; rw [e0, costR_0]; omega⟩

theorem optB_len (b : Bool) (B : BE) : (optB b B).1.length ≤ B.1.length := by
  cases b with
  | true => exact Nat.le_refl _
  | false => exact Nat.zero_le _
theorem flagsB_len (b : Bool) (p : Rn) : (flagsB b p).1.length ≤ 1 := by
  unfold flagsB
  split
  · exact Nat.zero_le _
  · exact Nat.le_refl _
theorem numB_len (x : Int) (n : Nat) : (numB x n).1.length = n := putL_length _ _
theorem runB_len (b : Bool) (p : Rn) : (runB b p).1.length ≤ costR p := by
  have h0 := consB_len p.cons
  have h1 := flagsB_len b p
  have h2 := Nat.le_trans (optB_len (hasV p) _) (valsB_len p.vals p.names)
  have h3 := Nat.le_trans (optB_len p.paged _) (Nat.le_of_eq (numB_len (IntKind.u64.wrap p.page) 4))
  have h4 := Nat.le_trans (optB_len p.resumed _) (valueB_len p.state)
  have h5 := Nat.le_trans (optB_len p.serially _) (consB_len p.serial)
  have h6 := Nat.le_trans (optB_len p.timed _) (Nat.le_of_eq (numB_len (IntKind.u64.wrap p.time) 8))
  have a0 := seqB_len (consB p.cons) (seqB (flagsB b p) (runB1 p))
  have a1 := seqB_len (flagsB b p) (runB1 p)
  have a2 := seqB_len (optB (hasV p) (valsB p.vals p.names)) (runB2 p)
  have a3 := seqB_len (optB p.paged (numB (IntKind.u64.wrap p.page) 4)) (runB3 p)
  have a4 := seqB_len (optB p.resumed (valueB p.state)) (runB4 p)
  have a5 := seqB_len (optB p.serially (consB p.serial)) (runB5 p)
  unfold runB costR
  unfold runB1 at a0 a1 ⊢
  unfold runB2 at a0 a1 a2 ⊢
  unfold runB3 at a0 a1 a2 a3 ⊢
  unfold runB4 at a0 a1 a2 a3 a4 ⊢
  unfold runB5 at a0 a1 a2 a3 a4 a5 ⊢
  omega
theorem putB_len {r : Rq} (h : FitQ r) (ht : r.tok.2.size ≤ 1048576) : (putB r).1.length ≤ 140737488351232 := by
  have hc := h.cost
  have hr := costR_ge r.run
  have hlb : (longB r.text).1.length = 4 + r.text.size := by unfold longB; simp only [List.length_append, putL_length, sNums_length]
  unfold putB
  repeat' split
  · exact Nat.le_trans (listB_len_const _ 131074 keyB_textB_len _) (by decide)
  · exact Nat.zero_le _
  · have := seqB_len (longB r.text) (runB false r.run); have := runB_len false r.run; omega
  · omega
  · have := seqB_len (textB r.id) (runB false r.run); have := runB_len false r.run; have := textB_len2 r.id; omega
  · exact Nat.le_trans (listB_len_const _ 65537 textB_len _) (by decide)
  · have := valueB_len r.tok; omega
  · have h1 := seqB_len (kindB r.kind) (seqB (listB stB r.all) (runB true r.run))
    have h2 := seqB_len (listB stB r.all) (runB true r.run)
    have h3 := runB_len true r.run
    have h4 := stList_len r.all
    have h5 : (kindB r.kind).1.length ≤ 1 := by unfold kindB; split <;> simp [putL_length]
    omega
  · exact Nat.zero_le _

/-- What came in within the bound has numbers and lengths that are told. -/
theorem fine_of {w : World} {oa : Option Addr} {ol oc : Nat} {ia : Option Addr} {il ic : Nat} {a : Option Addr} {l c : Nat} {na : Option Addr} {nl nc : Nat} {sa : Option Addr} {sl sc : Nat} {ea : Option Addr} {el ec : Nat} {ta : Option Addr} {tl tc : Nat} {aa : Option Addr} {al ac : Nat} {r : Rq}
    (h : RqAt w oa ol oc ia il ic a l c na nl nc sa sl sc ea el ec ta tl tc aa al ac r) (hs : Sm r) : FineQ r :=
  ⟨by have := hs.text; omega, ⟨h.run.cons.1, fun x hx => by have := hs.vals x hx; omega, h.run.page, by have := hs.state; omega, h.run.serial.1, h.run.time⟩, by have := hs.tok; omega, h.kind.1, fun s hx => ⟨by have := (hs.all s hx).1; omega, fun x hy => by have := (hs.all s hx).2.2.2 x hy; omega⟩⟩
end Go.Proofs.Ytcecdklgiocbaaa
