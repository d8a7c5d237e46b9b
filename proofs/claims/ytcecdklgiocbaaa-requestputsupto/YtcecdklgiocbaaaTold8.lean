/-
  What is put of a request is read, but for what an opcode, a flag or a value's kind hasn't: on bytes.
-/
import Derived.Test.YtcecdklgiocbaaaMir5
import Derived.Test.YtcecdklgiocbaaaLo3
namespace Go.Proofs.Ytcecdklgiocbaaa
open Go.RowKit
set_option maxRecDepth 100000
set_option linter.unusedVariables false
set_option linter.unusedSimpArgs false

/-- What these bytes tell, whatever is behind. -/
def Told {α : Type} (p : Ps α) (B : BE) (v : α) : Prop := B.2 = 0 → ∀ Z, p (B.1 ++ Z) = ⟨v, B.1.length, 0⟩

theorem told_bind {α β : Type} [Inhabited β] {p : Ps α} {g : α → Ps β} {A B : BE} {va : α} {vb : β} (hp : Told p A va) (hg : A.2 = 0 → B.2 = 0 → Told (g va) B vb) : Told (bindR p g) (seqB A B) vb := by
  intro h Z
  obtain ⟨hA, hB, e⟩ := seqB_fine h
  rw [e]
  simp only
  have h1 := hp hA (B.1 ++ Z)
  have h2 := hg hA hB hB Z
  rw [List.append_assoc]
  unfold bindR
  rw [h1]
  simp only
  rw [if_pos trivial, List.drop_left, h2]
  simp

theorem told_pure {α : Type} (a : α) : Told (pureR a) ([], 0) a := fun _ Z => rfl
theorem told_last {α β : Type} [Inhabited β] {p : Ps α} {A : BE} {va : α} (hp : Told p A va) (F : α → β) : Told (bindR p fun v => pureR (F v)) A (F va) := by
  intro h Z
  unfold bindR
  rw [hp h Z]
  simp [pureR]
theorem told_check {α : Type} [Inhabited α] {bad : α → Bool} {e : Int} {p : Ps α} {A : BE} {v : α} (hp : Told p A v) (hb : A.2 = 0 → bad v = false) : Told (checkR bad e p) A v := by
  intro h Z
  unfold checkR bindR
  rw [hp h Z]
  simp [hb h, pureR]
theorem told_opt {α : Type} [Inhabited α] (b : Bool) {p : Ps α} {B : BE} {v : α} (hp : b = true → Told p B v) : Told (optR b p) (optB b B) (if b then v else default) := by
  cases b with
  | true => exact hp rfl
  | false => exact told_pure _
theorem told_no {α : Type} {p : Ps α} {B : BE} {v : α} (h : B.2 ≠ 0) : Told p B v := fun e => absurd e h

theorem told_num (x : Int) (n : Nat) (h1 : 1 ≤ n) (h2 : n ≤ 8) (h : 0 ≤ x ∧ x < 2 ^ (8 * n)) : Told (numR n) (numB x n) x := by
  intro _ Z
  show numR n (putL x n ++ Z) = ⟨x, (putL x n).length, 0⟩
  unfold numR
  rw [if_neg (by rw [List.length_append, putL_length]; omega), numTo_putL x n Z h1 h2, Int.emod_eq_of_lt h.1 h.2, putL_length]

theorem told_cons {c : Int} (h : 0 ≤ c) : Told consR (consB c) c := by
  unfold consB
  by_cases hc : c ≤ 10
  · rw [if_pos hc]
    exact told_check (told_num c 2 (by omega) (by omega) ⟨h, by show c < 65536; omega⟩) (fun _ => by simpa using hc)
  · rw [if_neg hc]; exact told_no (by decide)
theorem told_kind {c : Int} (h : 0 ≤ c) : Told kindR (kindB c) c := by
  unfold kindB
  by_cases hc : c ≤ 2
  · rw [if_pos hc]
    exact told_check (told_num c 1 (by omega) (by omega) ⟨h, by show c < 256; omega⟩) (fun _ => by simpa using hc)
  · rw [if_neg hc]; exact told_no (by decide)

theorem told_sgn4 {x : Int} (h : -2147483648 ≤ x ∧ x ≤ 2147483647) : Told (sgnR 4) (numB (IntKind.u64.wrap x) 4) x := by
  have e : putL (IntKind.u64.wrap x) 4 = putL (x % 4294967296) 4 := by
    rw [IntKind.wrap_u64]
    simp [putL, byteAt, List.range_succ]
    omega
  have e2 : sgn (x % 4294967296) 4 = x := by
    unfold sgn
    simp only [show 8 * 4 - 1 = 31 from rfl, show 8 * 4 = 32 from rfl]
    split <;> omega
  have := told_last (told_num (x % 4294967296) 4 (by omega) (by omega) ⟨by omega, by show x % 4294967296 < 4294967296; omega⟩) (fun y => sgn y 4)
  simp only [e2] at this
  unfold numB at this ⊢
  rw [e]
  exact this
theorem told_sgn8 {x : Int} (h : -9223372036854775808 ≤ x ∧ x ≤ 9223372036854775807) : Told (sgnR 8) (numB (IntKind.u64.wrap x) 8) x := by
  have e2 : sgn (x % 18446744073709551616) 8 = x := by
    unfold sgn
    simp only [show 8 * 8 - 1 = 63 from rfl, show 8 * 8 = 64 from rfl]
    split <;> omega
  have := told_last (told_num (x % 18446744073709551616) 8 (by omega) (by omega) ⟨by omega, by show x % 18446744073709551616 < 18446744073709551616; omega⟩) (fun y => sgn y 8)
  simp only [e2] at this
  rw [IntKind.wrap_u64]
  exact this

theorem told_text8 (s : ByteArray) : Told textR (textB s) s := fits_text s
theorem told_long {s : ByteArray} (hs : s.size < 2147483648) : Told longR (longB s) s := by
  intro _ Z
  show longR (putL s.size 4 ++ sNums s ++ Z) = ⟨s, (putL s.size 4 ++ sNums s).length, 0⟩
  have hk : int4 (putL (s.size : Int) 4 ++ (sNums s ++ Z)) = s.size := by
    rw [told_int4 _ _ (by omega) (by omega), sig_small _ hs]
  unfold longR longA
  rw [List.append_assoc, if_neg (by rw [List.length_append, putL_length]; omega), hk, if_neg (by omega), if_neg (by rw [List.length_append, putL_length, List.length_append, sNums_length]; omega)]
  simp only [Int.toNat_natCast, List.length_append, putL_length, sNums_length]
  rw [told_front, List.take_append_of_le_length (by rw [sNums_length]; omega), List.take_of_length_le (by rw [sNums_length]; omega), strOfNums_sNums]

/-- A value as it is got again. -/
def nV (x : Vl) : Vl := if x.1 = 2 then x else (x.1, ByteArray.empty)
theorem told_value {x : Vl} (hx : x.2.size < 2147483648) : Told valueR (valueB x) (nV x) := by
  intro h Z
  unfold valueR
  (try simp only)
  unfold valueB at h ⊢
  by_cases h0 : x.1 = 0
  · rw [if_pos h0]; simp only; rw [minus_one]; simp [nV, h0]; rfl
  rw [if_neg h0] at h ⊢
  by_cases h1 : x.1 = 1
  · rw [if_pos h1]; simp only; rw [minus_two]; simp [nV, h1]; rfl
  rw [if_neg h1] at h ⊢
  by_cases h2 : x.1 = 2
  · rw [if_pos h2]
    simp only
    rw [List.append_assoc, value_told_yes (x.2.size : Int) (sNums x.2 ++ Z) x.2.size (by omega) (by omega) (sig_small _ hx) (by rw [List.length_append, sNums_length]; omega), List.length_append, putL_length, sNums_length]
    (try simp only)
    rw [List.take_append_of_le_length (by rw [sNums_length]; omega), List.take_of_length_le (by rw [sNums_length]; omega), strOfNums_sNums, nV, if_pos h2, ← h2]
  · rw [if_neg h2] at h; exact absurd h (by decide)

theorem goR_told {α β : Type} {p : Ps β} {f : α → BE} {n : α → β} (xs : List α) (hf : ∀ x ∈ xs, Told p (f x) (n x)) (he : ∀ x ∈ xs, (f x).2 = 0) (Z : List Int) :
    ∀ (P : List Int) (acc : List β) (d : Nat), d = P.length → goR p (P ++ (bodyB f xs ++ Z)) xs.length d acc = ⟨acc ++ xs.map n, d + (bodyB f xs).length, 0⟩ := by
  induction xs with
  | nil => intro P acc d hd; simp [goR, bodyB]
  | cons x r ih =>
    intro P acc d hd
    have hx := hf x List.mem_cons_self (he x List.mem_cons_self) (bodyB f r ++ Z)
    have hb : bodyB f (x :: r) = (f x).1 ++ bodyB f r := by rw [bodyB, bodyB, List.flatMap_cons]
    have hdrop : (P ++ (bodyB f (x :: r) ++ Z)).drop d = (f x).1 ++ (bodyB f r ++ Z) := by rw [hd, List.drop_left, hb, List.append_assoc]
    have hih := ih (fun y hy => hf y (List.mem_cons_of_mem _ hy)) (fun y hy => he y (List.mem_cons_of_mem _ hy)) (P ++ (f x).1) (acc ++ [n x]) (d + (f x).1.length) (by rw [List.length_append, hd])
    rw [List.length_cons, goR, hdrop, hx, if_pos rfl]
    simp only
    rw [hb, List.append_assoc, ← List.append_assoc P, hih, List.length_append]
    simp only [List.append_assoc, List.singleton_append, Nat.add_assoc, List.map_cons]

theorem told_list {α β : Type} {p : Ps β} {f : α → BE} (n : α → β) (xs : List α) (hf : ∀ x ∈ xs, Told p (f x) (n x)) : Told (listR p) (listB f xs) (xs.map n) := by
  intro h Z
  obtain ⟨hl, h1, h2⟩ := listB_ok h
  rw [h1, List.append_assoc, listR, if_neg (by rw [List.length_append, putL_length]; omega), told_text _ _ (by omega),
    show ((xs.length : Int) % 65536).toNat = xs.length by omega, goR_told xs hf h2 Z _ _ _ (putL_length _ _).symm, List.nil_append, List.length_append, putL_length]

theorem told_key {α : Type} [Inhabited α] {q : Ps α} {g : α → BE} {v : α} (x : ByteArray × α) (hq : Told q (g x.2) v) : Told (keyR q) (keyB g x) (x.1, v) := by
  rw [keyB_seq]
  intro h Z
  obtain ⟨hA, hB, e⟩ := seqB_fine h
  have ht := told_text8 x.1 hA ((g x.2).1 ++ Z)
  have h2 := hq hB Z
  rw [e]
  simp only
  rw [List.append_assoc, keyR, ht]
  simp only
  rw [List.drop_left, h2, List.length_append]
  simp

theorem flags_bits (v s p r e t n : Bool) : bitX (flN v s p r e t n) 1 = v ∧ bitX (flN v s p r e t n) 2 = s ∧ bitX (flN v s p r e t n) 4 = p ∧ bitX (flN v s p r e t n) 8 = r ∧ bitX (flN v s p r e t n) 16 = e ∧ bitX (flN v s p r e t n) 32 = t ∧ bitX (flN v s p r e t n) 64 = n ∧ 0 ≤ flN v s p r e t n ∧ flN v s p r e t n < 128 := by
  revert v s p r e t n; decide
theorem flags_fine (b v s p r e t n : Bool) : ((b && (v || s || p || r || n)) = false) → (n = true → v = true) → badX b (flN v s p r e t n) = false := by
  revert b v s p r e t n; decide

/-- A run as it is got again. -/
def nR (p : Rn) : Rn := (p.cons, p.vals.map nV, p.names, p.skip, p.paged, (if p.paged then p.page else default), p.resumed, (if p.resumed then nV p.state else default), p.serially, (if p.serially then p.serial else default), p.timed, (if p.timed then p.time else default))

/-- What a run's numbers may be, and how long its values. -/
structure FineR (p : Rn) : Prop where
  cons : 0 ≤ p.cons
  vals : ∀ x ∈ p.vals, x.2.size < 2147483648
  page : -2147483648 ≤ p.page ∧ p.page ≤ 2147483647
  state : p.state.2.size < 2147483648
  serial : 0 ≤ p.serial
  time : -9223372036854775808 ≤ p.time ∧ p.time ≤ 9223372036854775807

theorem zip_names (f : Vl → Vl) : ∀ (ns : List ByteArray) (l : List Vl), ns.length = l.length → ((ns.zip l).map fun y => (y.1, f y.2)).map (·.2) = l.map f ∧ ((ns.zip l).map fun y => (y.1, f y.2)).map (·.1) = ns := by
  intro ns
  induction ns with
  | nil => intro l h; cases l with
    | nil => exact ⟨rfl, rfl⟩
    | cons a r => simp at h
  | cons n r ih => intro l h; cases l with
    | nil => simp at h
    | cons a t =>
      obtain ⟨h1, h2⟩ := ih t (by simpa using h)
      exact ⟨by simpa using h1, by simpa using h2⟩

theorem told_vals {l : List Vl} {ns : List ByteArray} (hl : ∀ x ∈ l, x.2.size < 2147483648) (hp : 0 < l.length) (hn : 0 < ns.length → ns.length = l.length) : Told (valsR1 (decide (0 < ns.length))) (valsB l ns) (l.map nV, ns) := by
  refine told_check ?_ (fun _ => decide_eq_false (show ¬ (l.map nV).length = 0 by rw [List.length_map]; omega))
  unfold valsR valsB
  by_cases h : ns.length = 0
  · have e : ns = [] := List.eq_nil_of_length_eq_zero h
    subst e
    simp only [List.length_nil, Nat.lt_irrefl, decide_false, if_pos]
    exact told_last (told_list nV l (fun x hx => told_value (hl x hx))) (fun L => (L, []))
  · have h0 : decide (0 < ns.length) = true := decide_eq_true (by omega)
    rw [h0, if_neg h]
    have hz := zip_names nV ns l (hn (by omega))
    have := told_last (told_list (p := keyR valueR) (f := keyB valueB) (fun y : ByteArray × Vl => (y.1, nV y.2)) (ns.zip l) (fun y hy => told_key y (told_value (hl y.2 (List.of_mem_zip hy).2)))) (fun L : List (ByteArray × Vl) => (L.map (·.2), L.map (·.1)))
    rw [hz.1, hz.2] at this
    exact this

theorem told_run (b : Bool) {p : Rn} (h : FineR p) : Told (runR b) (runB b p) (nR p) := by
  obtain ⟨b1, b2, b4, b8, b16, b32, b64, f0, f1⟩ := flags_bits (hasV p) p.skip p.paged p.resumed p.serially p.timed (hasN p)
  have hx : flN (hasV p) p.skip p.paged p.resumed p.serially p.timed (hasN p) = flagsN p := rfl
  rw [hx] at b1 b2 b4 b8 b16 b32 b64 f0 f1
  refine told_bind (told_cons h.cons) (fun _ _ => ?_)
  by_cases hb : badF b p = true
  · refine fun e => ?_
    exfalso
    have := (seqB_fine e).1
    rw [flagsB, if_pos hb] at this
    exact absurd this (by decide)
  · have hb' : badF b p = false := by simpa using hb
    have hn : 0 < p.names.length → p.names.length = p.vals.length := by
      intro hn
      have := hb'
      unfold badF at this
      simp only [Bool.or_eq_false_iff, Bool.and_eq_false_iff, Bool.not_eq_false', decide_eq_true_eq] at this
      rcases this.2 with h9 | h9
      · unfold hasN at h9; simp at h9; rw [h9] at hn; simp at hn
      · exact h9
    have hbad : badX b (flagsN p) = false := by
      rw [← hx]
      refine flags_fine _ _ _ _ _ _ _ _ ?_ ?_
      · have := hb'
        unfold badF at this
        exact (Bool.or_eq_false_iff.1 this).1
      · intro e
        have e1 : 0 < p.names.length := of_decide_eq_true e
        have e2 := hn e1
        exact decide_eq_true (show 0 < p.vals.length by omega)
    refine told_bind (va := flagsN p) ?_ (fun _ _ => ?_)
    · rw [flagsB, if_neg hb]
      have e1 : ([flagsN p], 0) = numB (flagsN p) 1 := by
        unfold numB
        simp [putL, byteAt, List.range_succ]
        omega
      rw [e1]
      exact told_check (told_num _ 1 (by omega) (by omega) ⟨f0, by show flagsN p < 256; omega⟩) (fun _ => hbad)
    · unfold runR2
      rw [b1, b64]
      refine told_bind (va := (p.vals.map nV, p.names)) ?_ (fun _ _ => ?_)
      · have := told_opt (hasV p) (fun hv => told_vals (l := p.vals) (ns := p.names) h.vals (by unfold hasV at hv; simpa using hv) hn)
        have e2 : (if hasV p = true then (p.vals.map nV, p.names) else default) = (p.vals.map nV, p.names) := by
          by_cases hv : hasV p = true
          · rw [if_pos hv]
          · rw [if_neg hv]
            have hl : p.vals.length = 0 := by unfold hasV at hv; simp at hv; rw [hv]; rfl
            have hl2 : p.names.length = 0 := by
              by_cases h0 : 0 < p.names.length
              · have := hn h0; omega
              · omega
            rw [List.eq_nil_of_length_eq_zero hl, List.eq_nil_of_length_eq_zero hl2]
            rfl
        rw [e2] at this
        exact this
      · unfold runR3
        rw [b4]
        refine told_bind (told_opt p.paged (fun _ => told_sgn4 h.page)) (fun _ _ => ?_)
        unfold runR4
        rw [b8]
        refine told_bind (told_opt p.resumed (fun _ => told_value h.state)) (fun _ _ => ?_)
        unfold runR5
        rw [b16]
        refine told_bind (told_opt p.serially (fun _ => told_cons h.serial)) (fun _ _ => ?_)
        unfold runR6
        rw [b32]
        have := told_last (told_opt p.timed (fun _ => told_sgn8 h.time)) (fun tm => (p.cons, p.vals.map nV, p.names, bitX (flagsN p) 2, bitX (flagsN p) 4, (if p.paged then p.page else default), bitX (flagsN p) 8, (if p.resumed then nV p.state else default), bitX (flagsN p) 16, (if p.serially then p.serial else default), p.timed, tm))
        rw [b2, b4, b8, b16] at this
        rw [b2, b4, b8, b16]
        exact this

/-- A statement as it is got again. -/
def nS (s : St) : St := if s.prep then (true, ByteArray.empty, s.id, s.vals.map nV) else (false, s.text, ByteArray.empty, s.vals.map nV)
structure FineS (s : St) : Prop where
  text : s.text.size < 2147483648
  vals : ∀ x ∈ s.vals, x.2.size < 2147483648

theorem told_st {s : St} (h : FineS s) : Told stR (stB s) (nS s) := by
  unfold stB aheadB nS
  by_cases hp : s.prep = true
  · rw [if_pos hp, if_pos hp, seqB_assoc]
    have e1 : ([1], 0) = numB 1 1 := rfl
    rw [e1]
    refine told_bind (va := 1) (told_num 1 1 (by omega) (by omega) ⟨by decide, by decide⟩) (fun _ _ => ?_)
    rw [if_neg (by decide), if_pos rfl]
    exact told_bind (told_text8 s.id) (fun _ _ => told_last (told_list nV s.vals (fun x hx => told_value (h.vals x hx))) _)
  · rw [if_neg hp, if_neg hp, seqB_assoc]
    have e1 : ([0], 0) = numB 0 1 := rfl
    rw [e1]
    refine told_bind (va := 0) (told_num 0 1 (by omega) (by omega) ⟨by decide, by decide⟩) (fun _ _ => ?_)
    rw [if_pos rfl]
    exact told_bind (told_long h.text) (fun _ _ => told_last (told_list nV s.vals (fun x hx => told_value (h.vals x hx))) _)

/-- A request as it is got again. -/
def nQ (r : Rq) : Rq :=
  if r.op = 1 then (1, r.opts, ByteArray.empty, ByteArray.empty, default, [], (0, ByteArray.empty), 0, [])
  else if r.op = 5 then rq0 5
  else if r.op = 7 then (7, [], r.text, ByteArray.empty, nR r.run, [], (0, ByteArray.empty), 0, [])
  else if r.op = 9 then (9, [], r.text, ByteArray.empty, default, [], (0, ByteArray.empty), 0, [])
  else if r.op = 10 then (10, [], ByteArray.empty, r.id, nR r.run, [], (0, ByteArray.empty), 0, [])
  else if r.op = 11 then (11, [], ByteArray.empty, ByteArray.empty, default, r.evs, (0, ByteArray.empty), 0, [])
  else if r.op = 15 then (15, [], ByteArray.empty, ByteArray.empty, default, [], nV r.tok, 0, [])
  else if r.op = 13 then (13, [], ByteArray.empty, ByteArray.empty, nR r.run, [], (0, ByteArray.empty), r.kind, r.all.map nS)
  else rq0 0

structure FineQ (r : Rq) : Prop where
  text : r.text.size < 2147483648
  run : FineR r.run
  tok : r.tok.2.size < 2147483648
  kind : 0 ≤ r.kind
  all : ∀ s ∈ r.all, FineS s

theorem told_get {r : Rq} (h : FineQ r) : Told (getR r.op) (putB r) (nQ r) := by
  unfold getR putB nQ
  by_cases h1 : r.op = 1
  · rw [if_pos h1, if_pos h1, if_pos h1, h1]
    have := told_last (told_list (p := keyR textR) (f := keyB textB) (fun y : ByteArray × ByteArray => (y.1, y.2)) r.opts (fun y hy => told_key y (told_text8 y.2))) (fun o => ((1, o, ByteArray.empty, ByteArray.empty, default, [], (0, ByteArray.empty), 0, []) : Rq))
    rw [show (r.opts.map fun y : ByteArray × ByteArray => (y.1, y.2)) = r.opts from List.map_id _] at this
    exact this
  rw [if_neg h1, if_neg h1, if_neg h1]
  by_cases h5 : r.op = 5
  · rw [if_pos h5, if_pos h5, if_pos h5, h5]; exact told_pure _
  rw [if_neg h5, if_neg h5, if_neg h5]
  by_cases h7 : r.op = 7
  · rw [if_pos h7, if_pos h7, if_pos h7, h7]
    exact told_bind (told_long h.text) (fun _ _ => told_last (told_run false h.run) _)
  rw [if_neg h7, if_neg h7, if_neg h7]
  by_cases h9 : r.op = 9
  · rw [if_pos h9, if_pos h9, if_pos h9, h9]; exact told_last (told_long h.text) _
  rw [if_neg h9, if_neg h9, if_neg h9]
  by_cases h10 : r.op = 10
  · rw [if_pos h10, if_pos h10, if_pos h10, h10]
    exact told_bind (told_text8 r.id) (fun _ _ => told_last (told_run false h.run) _)
  rw [if_neg h10, if_neg h10, if_neg h10]
  by_cases h11 : r.op = 11
  · rw [if_pos h11, if_pos h11, if_pos h11, h11]
    have := told_last (told_list (p := textR) (f := textB) (fun y : ByteArray => y) r.evs (fun y hy => told_text8 y)) (fun es => ((11, [], ByteArray.empty, ByteArray.empty, default, es, (0, ByteArray.empty), 0, []) : Rq))
    rw [show (r.evs.map fun y : ByteArray => y) = r.evs from List.map_id _] at this
    exact this
  rw [if_neg h11, if_neg h11, if_neg h11]
  by_cases h15 : r.op = 15
  · rw [if_pos h15, if_pos h15, if_pos h15, h15]; exact told_last (told_value h.tok) _
  rw [if_neg h15, if_neg h15, if_neg h15]
  by_cases h13 : r.op = 13
  · rw [if_pos h13, if_pos h13, if_pos h13, h13]
    exact told_bind (told_kind h.kind) (fun _ _ => told_bind (told_list nS r.all (fun s hs => told_st (h.all s hs))) (fun _ _ => told_last (told_run true h.run) _))
  rw [if_neg h13, if_neg h13, if_neg h13]
  exact told_no (by decide)

/-- What is put is got. -/
theorem put_got {r : Rq} (h : FineQ r) (he : (putB r).2 = 0) : getE r.op (putB r).1 = 0 ∧ (getR r.op (putB r).1).val = nQ r := by
  have e := told_get h he []
  rw [List.append_nil] at e
  refine ⟨?_, by rw [e]⟩
  unfold getE
  rw [e]
  simp
end Go.Proofs.Ytcecdklgiocbaaa
