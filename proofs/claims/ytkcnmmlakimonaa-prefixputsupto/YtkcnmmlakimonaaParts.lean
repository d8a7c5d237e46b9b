/-
  The closures that read what a flag stands for: the tracing number, the warnings, the payload.
-/
import Derived.Test.YtkcnmmlakimonaaKeep
import Derived.Deep.RegionHeld3
namespace Go.Proofs.Ytkcnmmlakimonaa
open Go.RowKit
set_option maxRecDepth 100000
set_option linter.unusedVariables false
set_option linter.unusedSimpArgs false

theorem Behind.kept {S : Nat → Prop} {w W : World} {a r : Option Addr} {lr cr : Nat} {zs : List Int} {d : Nat} {er : Int} (h : Behind w a r lr cr zs d er) (hK : Kept S w W) (hn : ∀ q, a = some q → 0 < zs.length → ¬ S q.block) : Behind W a r lr cr zs d er := by
  rcases h with h | ⟨h1, h2, h3, b, o, off, h0, h4, h5, h6⟩
  · exact .inl h
  · refine .inr ⟨h1, h2, h3, b, o, off, h0, h4, Nat.lt_of_lt_of_le h5 hK.size, h6.len_eq, h6.le, h6.cap_le, fun _ => Nat.lt_of_lt_of_le h5 hK.size, fun i hi => ?_, h6.rng⟩
    exact (hK.cell (p := ⟨b, off + i, none⟩) h5 (hn ⟨b, o, none⟩ h0 h3)).trans (h6.cell i hi)

theorem one_kept (w : World) (p j : Nat) (v : Value) : Kept (fun k => k = p) w (w.setCell ⟨p, j, none⟩ v) := (Kept.refl (fun k => k = p) w).setCell (p := ⟨p, j, none⟩) (fun _ => rfl) v

theorem far_of {base p : Nat} {w : World} {t : Option Addr} {l c : Nat} (hF : Fresh base w t) (hp : p < base) : ∀ k, (Value.slice t l c).ownBlock = some k → some p ≠ some k := by
  intro k hk e
  cases t with
  | none => simp [Value.ownBlock] at hk
  | some q =>
    simp only [Value.ownBlock, Option.some.injEq] at hk e
    have := (hF q rfl).1
    omega

theorem set_far (w : World) (p j : Nat) (v : Value) : ∀ k, k < w.heap.size → some k ≠ some p → (w.setCell ⟨p, j, none⟩ v).heap[k]? = w.heap[k]? := by
  intro k hk hne
  rw [Below.heap_setCell _ _ _ _ (by simpa using hne)]

theorem PIn.setT {w w1 : World} {base p : Nat} {T : List Int} {ws : List ByteArray} {es : List En} (h : PIn w base p T ws es) (hB : Below w.heap.size w w1) {t : Option Addr} {lt ct : Nat} {T' : List Int} (hI : IsB w1 t lt ct T') (hF : Fresh w.heap.size w1 t) :
    PIn (w1.setCell ⟨p, 0, none⟩ (.slice t lt ct)) base p T' ws es := by
  obtain ⟨hp, hb, t0, lt0, ct0, vw, ve, hh, h1, h2, h3, h4⟩ := h
  have hpw := block_lt hh
  have hF' : Fresh base w1 t := hF.mono hb
  refine ⟨hp, by have := hB.size; simp; omega, t, lt, ct, vw, ve, three_set0 ((hB.block p hpw).trans hh) _, bytes_stay hI (set_far _ _ _ _) (by simp) (far_of hF' hp), fun q e => by have := hF' q e; simpa using this,
    (h3.old stays_s hB).kept stays_s (set_far _ _ _ _) (by simp) (fun k e => by cases e; exact hp), (h4.old stays_e hB).kept stays_e (set_far _ _ _ _) (by simp) (fun k e => by cases e; exact hp)⟩

theorem PIn.setW {w w1 : World} {base p : Nat} {T : List Int} {ws : List ByteArray} {es : List En} (h : PIn w base p T ws es) (hB : Below w.heap.size w w1) {v : Value} {ws' : List ByteArray} (ho : Own 9 1 VS w1 w.heap.size v ws') :
    PIn (w1.setCell ⟨p, 1, none⟩ v) base p T ws' es := by
  obtain ⟨hp, hb, t0, lt0, ct0, vw, ve, hh, h1, h2, h3, h4⟩ := h
  have hpw := block_lt hh
  refine ⟨hp, by have := hB.size; simp; omega, t0, lt0, ct0, v, ve, three_set1 ((hB.block p hpw).trans hh) _, bytes_stay (h1.old hB) (set_far _ _ _ _) (by simp) (far_of h2 hp), fun q e => by have := h2 q e; have := hB.size; simp; omega,
    (ho.mono hb).kept stays_s (set_far _ _ _ _) (by simp) (fun k e => by cases e; exact hp), (h4.old stays_e hB).kept stays_e (set_far _ _ _ _) (by simp) (fun k e => by cases e; exact hp)⟩

theorem PIn.setE {w w1 : World} {base p : Nat} {T : List Int} {ws : List ByteArray} {es : List En} (h : PIn w base p T ws es) (hB : Below w.heap.size w w1) {v : Value} {es' : List En} (ho : Own 42 3 VE w1 w.heap.size v es') :
    PIn (w1.setCell ⟨p, 2, none⟩ v) base p T ws es' := by
  obtain ⟨hp, hb, t0, lt0, ct0, vw, ve, hh, h1, h2, h3, h4⟩ := h
  have hpw := block_lt hh
  refine ⟨hp, by have := hB.size; simp; omega, t0, lt0, ct0, vw, v, three_set2 ((hB.block p hpw).trans hh) _, bytes_stay (h1.old hB) (set_far _ _ _ _) (by simp) (far_of h2 hp), fun q e => by have := h2 q e; have := hB.size; simp; omega,
    (h3.old stays_s hB).kept stays_s (set_far _ _ _ _) (by simp) (fun k e => by cases e; exact hp), (ho.mono hb).kept stays_e (set_far _ _ _ _) (by simp) (fun k e => by cases e; exact hp)⟩

/-- A tracing number, off the beginning. -/
def trR (zs : List Int) : Res (List Int) := if zs.length < 16 then ⟨[], 0, 10⟩ else ⟨zs.take 16, 16, 0⟩

theorem take_any {w : World} {a : Option Addr} {len cap : Nat} {zs : List Int} (h : IsB w a len cap zs) (hsm : len ≤ 140737488351232) {Y : Res (List Int)} (hY : Y = trR zs) :
    Calls Try.prog 30 #[.slice a len cap, .int .u64 16] w fun e w' => ∃ t lt ct r lr cr, e = .returned (.tuple #[.slice t lt ct, .slice r lr cr, .int .i64 Y.err]) ∧ IsB w' t lt ct Y.val ∧ Fresh w.heap.size w' t ∧ Behind w' a r lr cr zs Y.done Y.err ∧ Below w.heap.size w w' := by
  obtain ⟨h1, h2, h3, h4, h5⟩ := h
  by_cases hl : len < 16
  · rw [trR, if_pos (by omega)] at hY
    subst hY
    refine (btake_short a len cap 16 w (Nat.le_trans h2 h3) (by omega)).mono ?_
    rintro e w' ⟨rfl, rfl⟩
    exact ⟨none, 0, 0, none, 0, 0, rfl, isB_nil _, Fresh.none, .inl ⟨(by decide : (10 : Int) ≠ 0), rfl⟩, Below.refl _ _⟩
  · rw [trR, if_neg (by omega)] at hY
    subst hY
    obtain ⟨b, off, rfl, hR⟩ := h5 (by omega)
    refine (btake hR 16 (by omega) hsm 16 rfl).mono ?_
    rintro e w' ⟨off', rfl, hT, hD, hB, hs⟩
    exact ⟨_, _, _, _, _, _, rfl, hT.isB, Fresh.at (Nat.le_refl _) hs, .inr ⟨rfl, (show 16 ≤ zs.length by omega), by omega, b, off, off', rfl, rfl, Nat.lt_of_lt_of_le (hR.lt (by omega)) hB.size, hD⟩, hB⟩

/-- What the walk wants of p and of the captured variable, in a later world. -/
def Held (W : World) (p bx : Nat) : Prop :=
  W.cell? ⟨bx, 0, none⟩ = some (.pointer (some ⟨p, 0, none⟩)) ∧ (∃ x0, W.cell? ⟨p, 0, none⟩ = some x0) ∧ (∃ x1, W.cell? ⟨p, 1, none⟩ = some x1) ∧ (∃ x2, W.cell? ⟨p, 2, none⟩ = some x2) ∧
  W.frozen? ⟨p, 0, none⟩ = false ∧ W.frozen? ⟨p, 1, none⟩ = false ∧ W.frozen? ⟨p, 2, none⟩ = false

theorem PIn.held {w W : World} {base p bx : Nat} {T : List Int} {ws : List ByteArray} {es : List En} (h : PIn w base p T ws es) (hbx : w.heap[bx]? = some (.cells #[.pointer (some ⟨p, 0, none⟩)] 54 (0, 0))) (hB : Below w.heap.size w W) : Held W p bx ∧ bx ≠ p := by
  obtain ⟨hp, hb, t0, lt0, ct0, vw, ve, hh, h1, h2, h3, h4⟩ := h
  obtain ⟨c0, c1, c2, f0, f1, f2⟩ := three_cells ((hB.block p (block_lt hh)).trans hh)
  refine ⟨⟨cell_of_one ((hB.block bx (block_lt hbx)).trans hbx), ⟨_, c0⟩, ⟨_, c1⟩, ⟨_, c2⟩, f0, f1, f2⟩, ?_⟩
  rintro rfl
  rw [hh] at hbx
  simp at hbx

theorem set_bx {W : World} {p bx j : Nat} {v u : Value} (hne : bx ≠ p) (h : W.cell? ⟨bx, 0, none⟩ = some u) : (W.setCell ⟨p, j, none⟩ v).cell? ⟨bx, 0, none⟩ = some u := by
  rw [World.cell?_of_block (w := W) (w' := W.setCell ⟨p, j, none⟩ v) (a := ⟨bx, 0, none⟩) (Below.heap_setCell _ _ _ _ hne)]
  exact h

theorem texts_from {w W : World} (hW : Below w.heap.size w W) {base p bx : Nat} {T : List Int} {ws : List ByteArray} {es : List En} (hP : PIn w base p T ws es) (hbx : w.heap[bx]? = some (.cells #[.pointer (some ⟨p, 0, none⟩)] 54 (0, 0)))
    {a : Option Addr} {len cap : Nat} {zs : List Int} (h : IsB w a len cap zs) (hsm : len ≤ 140737488351232) {Y : Res (List ByteArray)} (hY : Y = listR textR zs) :
    Calls Try.prog 32 #[.slice a len cap] W fun e w1 => ∃ t lt ct r lr cr x1, e = .returned (.tuple #[.slice t lt ct, .slice r lr cr, .int .i64 Y.err]) ∧ Hid (Own 9 1 VS w1 w.heap.size (.slice t lt ct) Y.val ∧ Behind w1 a r lr cr zs Y.done Y.err ∧ Below w.heap.size w w1) ∧
      w1.cell? ⟨bx, 0, none⟩ = some (.pointer (some ⟨p, 0, none⟩)) ∧ w1.cell? ⟨p, 1, none⟩ = some x1 ∧ w1.frozen? ⟨p, 1, none⟩ = false ∧ (w1.setCell ⟨p, 1, none⟩ (.slice t lt ct)).cell? ⟨bx, 0, none⟩ = some (.pointer (some ⟨p, 0, none⟩)) := by
  refine (getTexts_any (h.old hW) hsm hY).mono ?_
  rintro e w1 ⟨v, r, lr, cr, rfl, HO, HB, hB⟩
  have hB1 := hW.trans (hB.mono hW.size)
  obtain ⟨⟨k0, ⟨x0, c0⟩, ⟨x1, c1⟩, ⟨x2, c2⟩, f0, f1, f2⟩, hne⟩ := hP.held hbx hB1
  obtain ⟨t, ct, rfl, _, _⟩ := HO.out.view
  exact ⟨t, _, ct, r, lr, cr, x1, rfl, ⟨HO.out.mono hW.size, HB.out, hB1⟩, k0, c1, f1, set_bx hne k0⟩

theorem entries_from {w W : World} (hW : Below w.heap.size w W) {base p bx : Nat} {T : List Int} {ws : List ByteArray} {es : List En} (hP : PIn w base p T ws es) (hbx : w.heap[bx]? = some (.cells #[.pointer (some ⟨p, 0, none⟩)] 54 (0, 0)))
    {a : Option Addr} {len cap : Nat} {zs : List Int} (h : IsB w a len cap zs) (hsm : len ≤ 140737488351232) {Y : Res (List En)} (hY : Y = listR (keyR valueR) zs) :
    Calls Try.prog 34 #[.slice a len cap] W fun e w1 => ∃ t lt ct r lr cr x2, e = .returned (.tuple #[.slice t lt ct, .slice r lr cr, .int .i64 Y.err]) ∧ Hid (Own 42 3 VE w1 w.heap.size (.slice t lt ct) Y.val ∧ Behind w1 a r lr cr zs Y.done Y.err ∧ Below w.heap.size w w1) ∧
      w1.cell? ⟨bx, 0, none⟩ = some (.pointer (some ⟨p, 0, none⟩)) ∧ w1.cell? ⟨p, 2, none⟩ = some x2 ∧ w1.frozen? ⟨p, 2, none⟩ = false ∧ (w1.setCell ⟨p, 2, none⟩ (.slice t lt ct)).cell? ⟨bx, 0, none⟩ = some (.pointer (some ⟨p, 0, none⟩)) := by
  refine (getEntries_any (h.old hW) hsm hY).mono ?_
  rintro e w1 ⟨v, r, lr, cr, rfl, HO, HB, hB⟩
  have hB1 := hW.trans (hB.mono hW.size)
  obtain ⟨⟨k0, ⟨x0, c0⟩, ⟨x1, c1⟩, ⟨x2, c2⟩, f0, f1, f2⟩, hne⟩ := hP.held hbx hB1
  obtain ⟨t, ct, rfl, _, _⟩ := HO.out.view
  exact ⟨t, _, ct, r, lr, cr, x2, rfl, ⟨HO.out.mono hW.size, HB.out, hB1⟩, k0, c2, f2, set_bx hne k0⟩

theorem tracing_from {w W : World} (hW : Below w.heap.size w W) {base p bx : Nat} {T : List Int} {ws : List ByteArray} {es : List En} (hP : PIn w base p T ws es) (hbx : w.heap[bx]? = some (.cells #[.pointer (some ⟨p, 0, none⟩)] 54 (0, 0)))
    {a : Option Addr} {len cap : Nat} {zs : List Int} (h : IsB w a len cap zs) (hsm : len ≤ 140737488351232) {Y : Res (List Int)} (hY : Y = trR zs) :
    Calls Try.prog 30 #[.slice a len cap, .int .u64 16] W fun e w1 => ∃ t lt ct r lr cr x0, e = .returned (.tuple #[.slice t lt ct, .slice r lr cr, .int .i64 Y.err]) ∧ Hid (IsB w1 t lt ct Y.val ∧ Fresh w.heap.size w1 t ∧ Behind w1 a r lr cr zs Y.done Y.err ∧ Below w.heap.size w w1) ∧
      w1.cell? ⟨bx, 0, none⟩ = some (.pointer (some ⟨p, 0, none⟩)) ∧ w1.cell? ⟨p, 0, none⟩ = some x0 ∧ w1.frozen? ⟨p, 0, none⟩ = false ∧ (w1.setCell ⟨p, 0, none⟩ (.slice t lt ct)).cell? ⟨bx, 0, none⟩ = some (.pointer (some ⟨p, 0, none⟩)) := by
  refine (take_any (h.old hW) hsm hY).mono ?_
  rintro e w1 ⟨t, lt, ct, r, lr, cr, rfl, HI, HF, HB, hB⟩
  have hB1 := hW.trans (hB.mono hW.size)
  obtain ⟨⟨k0, ⟨x0, c0⟩, ⟨x1, c1⟩, ⟨x2, c2⟩, f0, f1, f2⟩, hne⟩ := hP.held hbx hB1
  exact ⟨t, lt, ct, r, lr, cr, x0, rfl, ⟨HI, HF.mono hW.size, HB, hB1⟩, k0, c0, f0, set_bx hne k0⟩

set_option maxHeartbeats 1000000 in
theorem gwarn {w : World} {base p bx : Nat} {T : List Int} {ws : List ByteArray} {es : List En} (hP : PIn w base p T ws es) (hbx : w.heap[bx]? = some (.cells #[.pointer (some ⟨p, 0, none⟩)] 54 (0, 0)))
    {a : Option Addr} {len cap : Nat} {zs : List Int} (h : IsB w a len cap zs) (hsm : len ≤ 140737488351232) (hap : ∀ q, a = some q → 0 < zs.length → ¬ q.block = p) {Y : Res (List ByteArray)} (hY : Y = listR textR zs) :
    Calls Try.prog 31 #[.slice a len cap, .pointer (some ⟨bx, 0, none⟩)] w fun e w' => ∃ r lr cr, e = .returned (.tuple #[.slice r lr cr, .int .i64 Y.err]) ∧ Hid (Behind w' a r lr cr zs Y.done Y.err) ∧ Hid (PIn w' base p T Y.val es) ∧ Hid (Kept (fun k => k = p) w w') := by
  have k0 := (hP.held hbx (Below.refl _ _)).1.1
  have k1 := (hP.held hbx (Below.refl w.heap.size w).drew).1.1
  have hD : Hid (Below w.heap.size w w.drew) := (Below.refl w.heap.size w).drew
  have H : Hid (IsB w a len cap zs) := h
  have HP : Hid (PIn w base p T ws es) := hP
  have HX : Hid (w.heap[bx]? = some (.cells #[.pointer (some ⟨p, 0, none⟩)] 54 (0, 0))) := hbx
  have HY : Hid _ := hY
  have HA : Hid _ := hap
  clear h hP hbx hY hap
  go_enter Try.func31, Try.ntmps31
  go_wp2_with fail
  go_region_held3 (fun W => W.cell? ⟨bx, 0, none⟩ = some (.pointer (some ⟨p, 0, none⟩))) (assumption) (first
    | (go_at_call 32; refine (texts_from hD.out HP.out HX.out H.out hsm HY.out).mono ?_; rintro e w1 ⟨t, lt, ct, r, lr, cr, x1, rfl, HV, k2, c1, f1, k3⟩))
  all_goals (go_wp2_with fail; go_ret2; exact ⟨r, lr, cr, rfl, HV.out.2.1.kept (one_kept _ _ _ _) HA.out, HP.out.setW HV.out.2.2 HV.out.1, (kept_of (S := fun k => k = p) HV.out.2.2).setCell (p := ⟨p, 1, none⟩) (fun _ => rfl) _⟩)
set_option maxHeartbeats 1000000 in
theorem gload {w : World} {base p bx : Nat} {T : List Int} {ws : List ByteArray} {es : List En} (hP : PIn w base p T ws es) (hbx : w.heap[bx]? = some (.cells #[.pointer (some ⟨p, 0, none⟩)] 54 (0, 0)))
    {a : Option Addr} {len cap : Nat} {zs : List Int} (h : IsB w a len cap zs) (hsm : len ≤ 140737488351232) (hap : ∀ q, a = some q → 0 < zs.length → ¬ q.block = p) {Y : Res (List En)} (hY : Y = listR (keyR valueR) zs) :
    Calls Try.prog 33 #[.slice a len cap, .pointer (some ⟨bx, 0, none⟩)] w fun e w' => ∃ r lr cr, e = .returned (.tuple #[.slice r lr cr, .int .i64 Y.err]) ∧ Hid (Behind w' a r lr cr zs Y.done Y.err) ∧ Hid (PIn w' base p T ws Y.val) ∧ Hid (Kept (fun k => k = p) w w') := by
  have k0 := (hP.held hbx (Below.refl _ _)).1.1
  have k1 := (hP.held hbx (Below.refl w.heap.size w).drew).1.1
  have hD : Hid (Below w.heap.size w w.drew) := (Below.refl w.heap.size w).drew
  have H : Hid (IsB w a len cap zs) := h
  have HP : Hid (PIn w base p T ws es) := hP
  have HX : Hid (w.heap[bx]? = some (.cells #[.pointer (some ⟨p, 0, none⟩)] 54 (0, 0))) := hbx
  have HY : Hid _ := hY
  have HA : Hid _ := hap
  clear h hP hbx hY hap
  go_enter Try.func33, Try.ntmps33
  go_wp2_with fail
  go_region_held3 (fun W => W.cell? ⟨bx, 0, none⟩ = some (.pointer (some ⟨p, 0, none⟩))) (assumption) (first
    | (go_at_call 34; refine (entries_from hD.out HP.out HX.out H.out hsm HY.out).mono ?_; rintro e w1 ⟨t, lt, ct, r, lr, cr, x2, rfl, HV, k2, c2, f1, k3⟩))
  all_goals (go_wp2_with fail; go_ret2; exact ⟨r, lr, cr, rfl, HV.out.2.1.kept (one_kept _ _ _ _) HA.out, HP.out.setE HV.out.2.2 HV.out.1, (kept_of (S := fun k => k = p) HV.out.2.2).setCell (p := ⟨p, 2, none⟩) (fun _ => rfl) _⟩)
set_option maxHeartbeats 1000000 in
theorem gtrac {w : World} {base p bx : Nat} {T : List Int} {ws : List ByteArray} {es : List En} (hP : PIn w base p T ws es) (hbx : w.heap[bx]? = some (.cells #[.pointer (some ⟨p, 0, none⟩)] 54 (0, 0)))
    {a : Option Addr} {len cap : Nat} {zs : List Int} (h : IsB w a len cap zs) (hsm : len ≤ 140737488351232) (hap : ∀ q, a = some q → 0 < zs.length → ¬ q.block = p) {Y : Res (List Int)} (hY : Y = trR zs) :
    Calls Try.prog 29 #[.slice a len cap, .pointer (some ⟨bx, 0, none⟩)] w fun e w' => ∃ r lr cr, e = .returned (.tuple #[.slice r lr cr, .int .i64 Y.err]) ∧ Hid (Behind w' a r lr cr zs Y.done Y.err) ∧ Hid (PIn w' base p Y.val ws es) ∧ Hid (Kept (fun k => k = p) w w') := by
  have k0 := (hP.held hbx (Below.refl _ _)).1.1
  have k1 := (hP.held hbx (Below.refl w.heap.size w).drew).1.1
  have hD : Hid (Below w.heap.size w w.drew) := (Below.refl w.heap.size w).drew
  have H : Hid (IsB w a len cap zs) := h
  have HP : Hid (PIn w base p T ws es) := hP
  have HX : Hid (w.heap[bx]? = some (.cells #[.pointer (some ⟨p, 0, none⟩)] 54 (0, 0))) := hbx
  have HY : Hid _ := hY
  have HA : Hid _ := hap
  clear h hP hbx hY hap
  go_enter Try.func29, Try.ntmps29
  go_wp2_with fail
  go_region_held3 (fun W => W.cell? ⟨bx, 0, none⟩ = some (.pointer (some ⟨p, 0, none⟩))) (assumption) (first
    | (go_at_call 30; refine (tracing_from hD.out HP.out HX.out H.out hsm HY.out).mono ?_; rintro e w1 ⟨t, lt, ct, r, lr, cr, x0, rfl, HV, k2, c0, f1, k3⟩))
  all_goals (go_wp2_with fail; go_ret2; exact ⟨r, lr, cr, rfl, HV.out.2.2.1.kept (one_kept _ _ _ _) HA.out, HP.out.setT HV.out.2.2.2 HV.out.1 HV.out.2.1, (kept_of (S := fun k => k = p) HV.out.2.2.2).setCell (p := ⟨p, 0, none⟩) (fun _ => rfl) _⟩)
end Go.Proofs.Ytkcnmmlakimonaa
