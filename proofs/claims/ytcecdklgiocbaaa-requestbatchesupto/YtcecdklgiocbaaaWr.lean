/-
  A writer in memory, and its methods fail, part, number, count, long, id, kind.
-/
import Derived.Test.YtcecdklgiocbaaaKeep
namespace Go.Proofs.Ytcecdklgiocbaaa
open Go.RowKit
set_option maxRecDepth 100000
set_option linter.unusedVariables false
set_option linter.unusedSimpArgs false

/-- A writer in memory: its block p, its slice v; without an error v owns the bytes. -/
structure Wr (w : World) (p : Nat) (v : Value) (S : BE) : Prop where
  blk : w.heap[p]? = some (.cells #[v, .int .i64 S.2] 63 (0, 0))
  far : ∀ k, v.ownBlock = some k → p < k ∧ k < w.heap.size
  shape : ∃ a l c, v = .slice a l c
  own : S.2 = 0 → OwnB w (p + 1) v S.1.length S.1
  nrm : Nrm S
  rng : Rng S.1

/-- What a method of a writer changes: the writer's block, the row of its slice; its new row is the old one, or new. -/
def Chg (p : Nat) (v v' : Value) (w w' : World) : Prop := Kept (fun k => k = p ∨ v.ownBlock = some k) w w' ∧ ∀ k, v'.ownBlock = some k → v.ownBlock = some k ∨ w.heap.size ≤ k

theorem Chg.refl (p : Nat) (v : Value) (w : World) : Chg p v v w w := ⟨Kept.refl _ _, fun k h => .inl h⟩
theorem Chg.trans {p : Nat} {v v' v'' : Value} {a b c : World} (h : Chg p v v' a b) (k : Chg p v' v'' b c) : Chg p v v'' a c := by
  refine ⟨h.1.trans k.1 (fun i hi e => ?_), fun i hi => ?_⟩
  · rcases e with e | e
    · exact .inl e
    · rcases h.2 i e with e | e
      · exact .inr e
      · omega
  · rcases k.2 i hi with e | e
    · exact h.2 i e
    · exact .inr (Nat.le_trans h.1.size e)
theorem chg_new {p : Nat} {v : Value} {w w' : World} (h : Below w.heap.size w w') : Chg p v v w w' := ⟨kept_of h, fun k h => .inl h⟩

theorem Wr.new {w w' : World} {p : Nat} {v : Value} {S : BE} (h : Wr w p v S) (hB : Below w.heap.size w w') : Wr w' p v S :=
  ⟨(hB.block p (block_lt h.blk)).trans h.blk, fun k hk => ⟨(h.far k hk).1, Nat.lt_of_lt_of_le (h.far k hk).2 hB.size⟩, h.shape, fun e => (h.own e).old hB, h.nrm, h.rng⟩

theorem Wr.lt {w : World} {p : Nat} {v : Value} {S : BE} (h : Wr w p v S) : p < w.heap.size := block_lt h.blk

/-- Bytes that are read do not lie in a writer's block. -/
theorem Wr.apart {w : World} {p : Nat} {v : Value} {S : BE} (h : Wr w p v S) {a : Option Addr} {len cap : Nat} {zs : List Int} (hI : IsB w a len cap zs) : ∀ q, a = some q → 0 < len → q.block ≠ p := by
  intro q hq hl e
  obtain ⟨b, off, rfl, hR⟩ := hI.2.2.2.2 hl
  cases hq
  simp only at e
  subst e
  have hc := hR.cell 0 hl
  rw [World.cell?, h.blk] at hc
  obtain ⟨xa, xl, xc, rfl⟩ := h.shape
  match off, hc with
  | 0, hc => simp at hc
  | 1, hc => simp at hc
  | k + 2, hc => simp at hc

theorem Wr.setE {w : World} {p : Nat} {v : Value} {S : BE} (h : Wr w p v S) (hS : S.2 = 0) (e : Int) : Wr (w.setCell ⟨p, 1, none⟩ (.int .i64 e)) p v (seqB S ([], e)) := by
  have hb : (seqB S ([], e)).2 = e := by
    by_cases he : e = 0
    · rw [seqB_ok hS he, he]
    · rw [seqB_no hS he]
  refine ⟨by rw [hb]; exact two_set1 h.blk _, fun k hk => by simpa using h.far k hk, h.shape, fun e0 => ?_, nrm_seq _ _, rng_seq h.rng rng_nil⟩
  rw [hb] at e0
  have e1 : seqB S ([], e) = (S.1 ++ [], 0) := seqB_ok hS e0
  rw [e1, List.append_nil]
  exact (h.own hS).kept (one_kept w p 1 _) (fun k hk e => by have := (h.far k hk).1; omega)

set_option maxHeartbeats 400000 in
theorem wfail {w : World} {p : Nat} {v : Value} {S : BE} (h : Wr w p v S) (e : Int) :
    Calls Try.prog 25 #[.pointer (some ⟨p, 0, none⟩), .int .i64 e] w fun r w' => r = .returned (.tuple #[]) ∧ Wr w' p v (seqB S ([], e)) ∧ Kept (fun k => k = p) w w' := by
  obtain ⟨c0, c1, f0, f1⟩ := two_cells h.blk
  have hlt := h.lt
  have H : Hid (Wr w p v S) := h
  clear h
  by_cases hS : S.2 = 0
  · rw [hS] at c1
    have HS : Hid (S.2 = 0) := hS
    clear hS
    go_enter Try.func25, Try.ntmps25
    go_wp2
    go_end0
    exact ⟨rfl, H.out.setE HS.out e, one_kept _ _ _ _⟩
  · have t : (S.2 == 0) = false := by simpa using hS
    have HE : Hid (seqB S ([], e) = S) := seqB_keep H.out.nrm hS
    clear hS
    go_enter Try.func25, Try.ntmps25
    go_wp2
    go_end0
    exact ⟨rfl, by rw [HE.out]; exact H.out, Kept.refl _ _⟩

theorem Wr.grow {w w2 : World} {p : Nat} {v v2 : Value} {S : BE} (h : Wr w p v S) (hS : S.2 = 0) {zs : List Int} (hz : Rng zs) {len : Nat} (hl : zs.length = len) (ho : OwnB w2 (p + 1) v2 (S.1.length + len) (S.1 ++ zs)) (hK : Kept (fun k => v.ownBlock = some k) w w2)
    (hv : v2.ownBlock = v.ownBlock ∨ v2.ownBlock = some w.heap.size) : Wr (w2.setCell ⟨p, 0, none⟩ v2) p v2 (seqB S (zs, 0)) ∧ Chg p v v2 w (w2.setCell ⟨p, 0, none⟩ v2) := by
  have e1 : seqB S (zs, 0) = (S.1 ++ zs, 0) := seqB_ok hS rfl
  have hp := h.lt
  have hb : w2.heap[p]? = some (.cells #[v, .int .i64 S.2] 63 (0, 0)) := (hK.block p hp (fun e => by have := (h.far p e).1; omega)).trans h.blk
  have hfar : ∀ k, v2.ownBlock = some k → p + 1 ≤ k ∧ k < w2.heap.size := World.ownsRow.lt ho
  refine ⟨⟨by rw [e1, two_set0 hb, hS], fun k hk => by have := hfar k hk; simp; omega, ?_, fun _ => ?_, nrm_seq _ _, rng_seq h.rng hz⟩, ?_, fun k hk => ?_⟩
  · rcases ho.2 with ⟨rfl, _⟩ | ⟨g, cp, cur, rfl, _⟩ <;> exact ⟨_, _, _, rfl⟩
  · rw [e1]
    simp only [List.length_append]
    rw [hl]
    exact OwnB.kept ho (one_kept w2 p 0 v2) (fun k hk e => by have := (hfar k hk).1; omega)
  · exact (hK.trans (S' := fun _ => False) (Kept.refl _ _) (fun _ _ e => e.elim) |> fun hk => (⟨hk.os, hk.tape, hk.output, hk.size, fun k h1 h2 => hk.block k h1 (fun e => h2 (.inr e))⟩ : Kept (fun k => k = p ∨ v.ownBlock = some k) w w2)).setCell (p := ⟨p, 0, none⟩) (fun _ => .inl rfl) v2
  · rcases hv with e | e
    · exact .inl (e ▸ hk)
    · rw [e] at hk; cases hk; exact .inr (Nat.le_refl _)

theorem OwnB.shape {w : World} {base : Nat} {v : Value} {n : Nat} {X : List Int} (h : OwnB w base v n X) : ∃ a l c, v = .slice a l c := by
  rcases h.2 with ⟨rfl, _⟩ | ⟨g, cp, cur, rfl, _⟩ <;> exact ⟨_, _, _, rfl⟩

set_option maxHeartbeats 400000 in
theorem wpart {w : World} {p : Nat} {v : Value} {S : BE} (h : Wr w p v S) {a : Option Addr} {len cap : Nat} {zs : List Int} (hI : IsB w a len cap zs) (hbd : S.1.length + len ≤ 140737488355328) (e : Int) :
    Calls Try.prog 16 #[.pointer (some ⟨p, 0, none⟩), .slice a len cap, .int .i64 e] w fun r w' => r = .returned (.tuple #[]) ∧ ∃ v', Hid (Wr w' p v' (seqB S (zs, e))) ∧ Hid (Chg p v v' w w') := by
  have H : Hid (Wr w p v S) := h
  have HI : Hid (IsB w a len cap zs) := hI
  have HBD : Hid (S.1.length + len ≤ 140737488355328) := hbd
  clear h hI hbd
  go_enter Try.func16, Try.ntmps16
  go_wp2_with fail
  refine (wfail H.out e).mono ?_
  rintro r w1 ⟨rfl, h1, hK1⟩
  obtain ⟨c0, c1, f0, f1⟩ := two_cells h1.blk
  have hlt := h1.lt
  have H1 : Hid (Wr w1 p v (seqB S ([], e))) := h1
  have HK1 : Hid (Kept (fun k => k = p) w w1) := hK1
  have HC1 : Hid (Chg p v v w w1) := ⟨⟨hK1.os, hK1.tape, hK1.output, hK1.size, fun k h1 h2 => hK1.block k h1 (fun e => h2 (.inl e))⟩, fun k hk => .inl hk⟩
  have HI1 : Hid (IsB w1 a len cap zs) := HI.out.kept hK1 (fun q hq hl e => H.out.apart HI.out q hq hl e)
  clear h1 hK1
  by_cases hS : S.2 = 0 ∧ e = 0
  · obtain ⟨hS, rfl⟩ := hS
    have e1 : seqB S ([], 0) = S := seqB_unit H.out.nrm
    rw [e1] at H1 c1
    rw [hS] at c1
    have HO : Hid (OwnB w1 (p + 1) v S.1.length S.1) := H1.out.own hS
    have HS : Hid (S.2 = 0) := hS
    have hs : p + 1 ≤ w1.heap.size := hlt
    clear hS e1
    go_wp2_with (at_builtin; refine wpList_append_own rfl (.tmp 18) (.tmp 19) rfl rfl HO.out rfl HI1.out HBD.out hs ?_)
    intro v2 w2 ho2 hK2 hv2
    obtain ⟨xa2, xl2, xc2, rfl⟩ := ho2.shape
    have hb2 : w2.heap[p]? = some (.cells #[v, .int .i64 S.2] 63 (0, 0)) := (hK2.block p hlt (fun e => by have := (H1.out.far p e).1; omega)).trans H1.out.blk
    obtain ⟨d0, d1, g0, g1⟩ := two_cells hb2
    have hlt2 := block_lt hb2
    have HG : Hid (Wr (w2.setCell ⟨p, 0, none⟩ (.slice xa2 xl2 xc2)) p (.slice xa2 xl2 xc2) (seqB S (zs, 0)) ∧ Chg p v (.slice xa2 xl2 xc2) w1 (w2.setCell ⟨p, 0, none⟩ (.slice xa2 xl2 xc2))) := H1.out.grow HS.out HI1.out.range HI1.out.1 ho2 hK2 hv2
    clear ho2 hK2 hv2 hb2
    go_wp2_with fail
    go_end0
    exact ⟨rfl, _, HG.out.1, HC1.out.trans HG.out.2⟩
  · have hne : (seqB S ([], e)).2 ≠ 0 := by
      intro h0
      obtain ⟨h1, h2, _⟩ := seqB_fine h0
      exact hS ⟨h1, h2⟩
    have t : ((seqB S ([], e)).2 == 0) = false := by simpa using hne
    have HE : Hid (seqB S (zs, e) = seqB S ([], e)) := by
      show _ = _
      by_cases h0 : S.2 = 0
      · have he : e ≠ 0 := fun he => hS ⟨h0, he⟩
        rw [seqB_no h0 he, seqB_no h0 he]
      · rw [seqB_err _ h0, seqB_err _ h0]
    generalize seqB S ([], e) = S1 at *
    clear hne hS
    go_wp2_with fail
    go_end0
    exact ⟨rfl, v, by rw [HE.out]; exact H1, HC1⟩
end Go.Proofs.Ytcecdklgiocbaaa
