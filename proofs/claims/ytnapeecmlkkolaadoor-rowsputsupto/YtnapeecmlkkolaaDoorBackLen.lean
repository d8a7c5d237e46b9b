/-
  append that keeps what was there; how many bytes a type that is got may take.
-/
import Derived.Test.YtnapeecmlkkolaaDoorCut
import Derived.Laws.Append
namespace Go.Proofs.YtnapeecmlkkolaaDoor
open Go.RowKit
set_option linter.unusedVariables false
set_option linter.unusedSimpArgs false

/-- append onto bytes that are owned: what was there is read as before. -/
theorem append_keep_run {w : World} {base : Nat} {a : Option Addr} {cp : Nat} {X : List Int} (hown : Acc w base (.slice a X.length cp) X) (hX : IsB w a X.length cp X) {xa : Option Addr} {len cap : Nat} {zs : List Int} (hB : IsB w xa len cap zs) (hbd : X.length + len ≤ 140737488355328) (hbase : base ≤ w.heap.size) (ty : TypeId) :
    ∃ v' w', (Builtin.append_ #[22, 22] ty #[.slice a X.length cp, .slice xa len cap]).run Tryd.prog w = .ok v' w' ∧ Acc w' base v' (X ++ zs) ∧ Below base w w' ∧ IsB w' a X.length cp X := by
  obtain ⟨i0, hi, hz0, hz1, hz2⟩ := info_parts Tryd.info5
  cases xa with
  | none =>
    obtain ⟨h1, h2, h3, h4, h5⟩ := hB
    obtain ⟨rfl, rfl⟩ := h4 rfl
    obtain rfl : zs = [] := List.eq_nil_of_length_eq_zero h1
    refine ⟨_, w, run_append_owned_none (P := Tryd.prog) (w := w) base 22 ty 5 i0 1 Tryd.underlying22 hi _ _ _ hown, ?_, Below.refl _ _, hX⟩
    rw [List.append_nil]; exact hown
  | some x =>
    have hl : (zs.map (Value.int .u8)).length = len * 1 := by rw [List.length_map, hB.1, Nat.mul_one]
    obtain ⟨v', w', hr, h2, h3, h4, h5⟩ := run_append_own_at (P := Tryd.prog) w base 22 ty 5 i0 (.int .u8 0) 1 1 Tryd.underlying22 hi hz0 hz1 hz2 rfl (by decide) _ _ _ hown x len cap _ hl hB.news (bytes_one zs) (by unfold maxLen; omega) (by omega) hbase
    have hacc : Acc w' base v' (X ++ zs) := by
      have := OwnB.join h2 rfl
      show OwnB _ _ _ _ _
      rw [List.length_append, hB.1]; exact this
    refine ⟨v', w', hr, hacc, (Below.refl _ _).grown h3 hbase (fun k hk => (hown.lt k hk).1), ?_⟩
    by_cases hp : 0 < X.length
    · obtain ⟨b, off, ha, hR⟩ := hX.2.2.2.2 hp
      rcases hown.2 with ⟨hv, h0⟩ | ⟨g, cap2, cur, hv, hg, hh, hnc, hm, hs, htake⟩
      · omega
      · simp only [Value.slice.injEq] at hv
        obtain ⟨hv1, hv2, hv3⟩ := hv
        rw [hv1] at ha
        simp only [Option.some.injEq, Addr.mk.injEq, and_true] at ha
        obtain ⟨hgb, hoff⟩ := ha
        subst hv1 hv3 hgb hoff
        have hsz : i0.size = 1 := hz1
        by_cases hroom : X.length + len ≤ cp
        · have hr2 := run_append_room (P := Tryd.prog) w 22 ty 5 i0 Tryd.underlying22 hi g X.length cp cur hh x len cap (zs.map (Value.int .u8)) (by rw [hsz]; exact hl) hB.news (bytes_one zs) hroom (by rw [hsz, hl, hs]; omega)
          rw [hr] at hr2
          cases hr2
          refine ⟨rfl, hX.2.1, hX.2.2.1, hX.2.2.2.1, fun _ => ⟨g, 0, rfl, rfl, hX.2.1, hX.2.2.1, fun _ => Nat.lt_of_lt_of_le (hR.lt hp) h3.size, fun i hi2 => ?_, hR.rng⟩⟩
          rw [Nat.zero_add, own_cell hacc rfl (i := i) (by rw [List.length_map, List.length_append]; omega), List.getD_eq_getElem?_getD, List.getElem?_map, List.getElem?_append_left hi2, List.getElem?_eq_getElem hi2, List.getD_eq_getElem?_getD, List.getElem?_eq_getElem hi2]
          rfl
        · have holds : ∀ j u, (X.map (Value.int .u8))[j]? = some u → w.cell? ((⟨g, 0, none⟩ : Addr).add j) = some u := hX.news
          have hr2 := run_append_grow (P := Tryd.prog) w 22 ty 5 i0 (.int .u8 0) Tryd.underlying22 hi hz0 ⟨g, 0, none⟩ X.length cp (X.map (Value.int .u8)) (by rw [hsz, List.length_map]; omega) holds x len cap (zs.map (Value.int .u8)) (by rw [hsz]; exact hl) hB.news (by omega) (by omega) (growslice_fits (by omega) (by rw [hz2]; omega))
          rw [hr] at hr2
          cases hr2
          exact hX.old ((Below.refl _ _).drew.alloc (Nat.le_refl _) _)
    · have h0 : X = [] := List.eq_nil_of_length_eq_zero (by omega)
      subst h0
      exact ⟨rfl, hX.2.1, hX.2.2.1, hX.2.2.2.1, fun h => by simp at h⟩

theorem wpList_append_keep {ops : Array Oper} {rest : List Oper} {o : Oper} {a : Act} {w : World} {Q : Exit → Act → World → Prop} (hgd : o.guard = none) (s x : Operand)
    (ho : o.op = .call { callee := .builtin .append, args := #[s, x], argTypes := #[22, 22] })
    {base : Nat} {b : Option Addr} {L cp : Nat} {X : List Int} (hL : L = X.length) (hs : a.eval s = .slice b L cp) (hown : Acc w base (.slice b L cp) X) (hX : IsB w b L cp X) {xa : Option Addr} {len cap : Nat} {zs : List Int} (hx : a.eval x = .slice xa len cap) (hB : IsB w xa len cap zs) (hbd : X.length + len ≤ 140737488355328) (hbase : base ≤ w.heap.size)
    (h : ∀ v' w', Hid (Acc w' base v' (X ++ zs)) → Hid (Below base w w') → Hid (IsB w' b L cp X) → wpList Tryd.prog ops Q rest (a.put o.dst v') w') : wpList Tryd.prog ops Q (o :: rest) a w := by
  subst hL
  refine wpList_plain hgd fun K hK => ?_
  obtain ⟨v', w', hr, h2, h3, h4⟩ := append_keep_run hown hX hB hbd hbase o.type
  unfold Oper.wp
  simp [execOp, ho, resolve, invoke, builtin, hs, hx, hr, Result.andThen]
  exact hK _ _ (h v' w' h2 h3 h4)

theorem Acc.bytes {w : World} {base : Nat} {v : Value} {X : List Int} (h : Acc w base v X) (hr : ∀ j : Nat, 0 ≤ X[j]?.getD 0 ∧ X[j]?.getD 0 ≤ 255) : ∃ a cp L, L = X.length ∧ v = .slice a L cp ∧ IsB w a L cp X := by
  obtain ⟨a, cp, h1, h2⟩ := isB_own h hr
  exact ⟨a, cp, _, rfl, h1, h2⟩

/-- The second part: what is got is put as it was. -/
theorem back_got {w : World} {a : Option Addr} {len cap : Nat} {zs : List Int} {X : Res Ty} (hX : X = tyR 20 zs) (hr : ∀ j : Nat, 0 ≤ zs[j]?.getD 0 ∧ zs[j]?.getD 0 ≤ 255) (he : X.err = 0) : X.done ≤ zs.length ∧ putR 19 X.val = (zs.take X.done, 0) := by
  subst hX
  obtain ⟨h1, h2⟩ := puts_ty 20 zs hr he
  have h3 := deep_ty 20 zs he
  refine ⟨h1, ?_⟩
  rw [putR, if_neg (by rw [h3]; decide)]
  exact h2

theorem body_len {α : Type} {f : α → List Int × Int} {g : α → Nat} : ∀ xs : List α, (∀ x ∈ xs, g x ≤ 65539 * (f x).1.length) → (xs.map g).sum ≤ 65539 * (bodyB f xs).length
  | [], _ => by simp [bodyB]
  | x :: r, h => by
    have h1 := h x List.mem_cons_self
    have h2 := body_len r (fun y hy => h y (List.mem_cons_of_mem _ hy))
    rw [bodyB_cons, List.length_append, List.map_cons, List.sum_cons, Nat.mul_add]
    omega

theorem zip_eq (f : Ty → Nat) : ∀ (ns : List ByteArray) (ks : List Ty), ks.length = ns.length → ((ns.zip ks).map fun p => 65537 + f p.2).sum = 65537 * ns.length + (ks.map f).sum
  | [], [], _ => by simp
  | [], _ :: _, h => by simp at h
  | _ :: _, [], h => by simp at h
  | n :: ns, k :: ks, h => by
    have := zip_eq f ns ks (by simpa using h)
    simp only [List.zip_cons_cons, List.map_cons, List.sum_cons, List.length_cons, Nat.mul_succ]
    omega

theorem textB_two {s : ByteArray} (h : (textB s).2 = 0) : 2 ≤ (textB s).1.length := by
  by_cases hs : s.size ≤ 65535
  · rw [textB, if_pos hs]; simp only; rw [told_len]; omega
  · rw [textB, if_neg hs] at h; exact absurd h (by decide)

theorem wgt_len : ∀ (n : Nat) (t : Ty), (tyB n t).2 = 0 → wgt n t ≤ 65539 * (tyB n t).1.length
  | 0, t, h => absurd (show (1 : Int) = 0 from h) (by decide)
  | n + 1, t, h => by
    have ih := wgt_len n
    obtain ⟨hh, hr, he⟩ := tyB_zero h
    rw [he, wgt]
    simp only
    rw [told_len, Nat.mul_add]
    have key : 65537 * t.names.length + (t.kids.map (wgt n)).sum ≤ 65539 * (restB n t).1.length := by
      rcases hasB_cases hh with ⟨c, ck, cm⟩ | ⟨c, ck⟩ | ⟨c, cm⟩ | ⟨c, ck, cm⟩ | ⟨c, ck, cm⟩ | ⟨cp, ck, cm, n0, n48, n49, n32, n34, n33⟩
      · rw [nil_of_len ck, nil_of_len cm]; simp
      · have e : restB n t = cat (textB t.space) (cat (textB t.name) (cat (countB t.kids.length) (goB (fieldB (tyB n)) (t.names.zip t.kids)))) := by rw [restB, if_neg (by omega), if_pos c]
        rw [e] at hr ⊢
        obtain ⟨h1, h2, h3⟩ := cat_zero hr
        obtain ⟨h4, h5, h6⟩ := cat_zero h2
        obtain ⟨h7, h8, h9⟩ := cat_zero h5
        obtain ⟨g3, g4⟩ := goB_zero _ _ h8
        rw [h3, h6, h9, g3]
        simp only [List.length_append]
        have := body_len (f := fieldB (tyB n)) (g := fun p => 65537 + wgt n p.2) (t.names.zip t.kids) (fun x hx => by
          have hz := g4 x hx
          obtain ⟨a1, a2, a3⟩ := cat_zero hz
          have b1 := textB_two a1
          have b2 := ih x.2 a2
          have b3 : (fieldB (tyB n) x).1.length = (textB x.1).1.length + (tyB n x.2).1.length := by
            show (cat _ _).1.length = _
            rw [a3]; simp
          rw [b3]
          omega)
        rw [zip_eq _ _ _ ck] at this
        omega
      · have e : restB n t = cat (countB t.kids.length) (goB (tyB n) t.kids) := by rw [restB, if_neg (by omega), if_neg (by omega), if_pos c]
        rw [e] at hr ⊢
        obtain ⟨h1, h2, h3⟩ := cat_zero hr
        obtain ⟨g3, g4⟩ := goB_zero _ _ h2
        rw [h3, g3, nil_of_len cm]
        simp only [List.length_append, List.length_nil]
        have := body_len (f := tyB n) (g := wgt n) t.kids (fun x hx => ih x (g4 x hx))
        omega
      · have e : restB n t = goB (tyB n) t.kids := by rw [restB, if_neg (by omega), if_neg (by omega), if_neg (by omega)]
        rw [e] at hr ⊢
        obtain ⟨g3, g4⟩ := goB_zero _ _ hr
        rw [g3, nil_of_len cm]
        have := body_len (f := tyB n) (g := wgt n) t.kids (fun x hx => ih x (g4 x hx))
        simp only [List.length_nil]
        omega
      · have e : restB n t = goB (tyB n) t.kids := by rw [restB, if_neg (by omega), if_neg (by omega), if_neg (by omega)]
        rw [e] at hr ⊢
        obtain ⟨g3, g4⟩ := goB_zero _ _ hr
        rw [g3, nil_of_len cm]
        have := body_len (f := tyB n) (g := wgt n) t.kids (fun x hx => ih x (g4 x hx))
        simp only [List.length_nil]
        omega
      · rw [nil_of_len ck, nil_of_len cm]; simp
    omega

theorem got_wgt {zs : List Int} (hr : ∀ j : Nat, 0 ≤ zs[j]?.getD 0 ∧ zs[j]?.getD 0 ≤ 255) {X : Res Ty} (hX : X = tyR 20 zs) (he : X.err = 0) (hl : zs.length ≤ 300000000) : wgt (19 + 1) X.val ≤ 140737488355328 := by
  subst hX
  obtain ⟨h1, h2⟩ := puts_ty 20 zs hr he
  have h3 := wgt_len 20 (tyR 20 zs).val (by rw [h2])
  rw [h2] at h3
  simp only [List.length_take] at h3
  show wgt 20 _ ≤ _
  have : min (tyR 20 zs).done zs.length ≤ 300000000 := by omega
  have h4 : 65539 * min (tyR 20 zs).done zs.length ≤ 65539 * 300000000 := Nat.mul_le_mul_left _ this
  omega
end Go.Proofs.YtnapeecmlkkolaaDoor
