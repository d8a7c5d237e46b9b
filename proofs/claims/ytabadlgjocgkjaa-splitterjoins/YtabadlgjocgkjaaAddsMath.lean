/-
  SplitterAdds: how things stand from piece to piece.
-/
import Derived.Test.YtabadlgjocgkjaaAll
namespace Go.Proofs.Ytabadlgjocgkjaa
open Go.RowKit
set_option linter.unusedVariables false
set_option linter.unusedSimpArgs false

/-- All, and where what it tells lies. -/
theorem all_at (ver : Int) {w : World} {a : Option Addr} {len cap : Nat} {Q : List Int} (h : IsB w a len cap Q) (hl : len ≤ 100000) {fs : List Fr} {R : List Int} {E : Int} (hS : spl ver Q = (fs, R, E)) {n : Nat} (hn : fs.length = n) :
    Calls Try.prog 12 #[.int .u8 ver, .slice a len cap] w fun e w' => ∃ af cf, e = .returned (.tuple #[.slice af n cf, .int .i64 ((len : Int) - R.length), .int .i64 E]) ∧ View 6 VF w' af n cf fs ∧ ((af = none ∧ n = 0 ∧ cf = 0) ∨ ∃ g, af = some ⟨g, 0, none⟩) ∧ Below w.heap.size w w' := by
  refine (all_walk ver h hl hS).mono ?_
  rintro e w' ⟨fv, rfl, hT⟩
  have ho := hT.own
  rw [hS] at ho
  have ho2 := ho
  obtain ⟨cs, hown, _⟩ := ho2
  obtain ⟨af, cf, rfl, hv, hp⟩ := ho.view
  have hn' : (List.length fs) = n := hn
  simp only at hv
  rw [hn'] at hv
  refine ⟨af, cf, by rw [← hn'], hv, ?_, hT.bel⟩
  rcases hown.2 with ⟨he, h0⟩ | ⟨g, cap', cur, he, _⟩
  · simp only [Value.slice.injEq] at he
    exact .inl ⟨he.1, by rw [← hn']; exact h0, he.2.2⟩
  · simp only [Value.slice.injEq] at he
    exact .inr ⟨g, he.1⟩

/-- The frames behind the first D of a row of them. -/
theorem View.behind {w : World} {b off off' n cap : Nat} {fs : List Fr} (h : View 6 VF w (some ⟨b, off, none⟩) n cap fs) {D : Nat} (hD : D ≤ n) (ho : D < cap → off' = off + D * 6) : View 6 VF w (some ⟨b, off', none⟩) (n - D) (cap - D) (fs.drop D) := by
  obtain ⟨h1, h2, h3, h4, h5⟩ := h
  refine ⟨by simp [h1], by omega, by omega, (fun e => by cases e), fun hp => ?_⟩
  obtain ⟨b', o', he, hb, hc⟩ := h5 (by omega)
  cases he
  refine ⟨b, off', rfl, hb, fun i hi => ?_⟩
  obtain ⟨c, hcell, hv⟩ := hc (D + i) (by omega)
  refine ⟨c, fun j hj => ?_, ?_⟩
  · rw [ho (by omega)]
    have := hcell j hj
    rw [Nat.add_mul] at this
    rw [← this]
    congr 2
    omega
  · have : (fs.drop D).getD i default = fs.getD (D + i) default := by simp [List.getD_eq_getElem?_getD, List.getElem?_drop]
    rw [this]; exact hv

/-- How things stand behind the bytes U. -/
structure AddsAt (w0 wr : World) (s : Nat) (ver : Int) (U : List Int) (allv kv : Value) (D : Nat) : Prop where
  st : Spl wr s ver kv (spl ver U).2.1 (spl ver U).2.2
  all : KeptV wr allv U
  apart : ∀ k, allv.ownBlock = some k → k ≠ s ∧ kv.ownBlock ≠ some k ∧ w0.heap.size ≤ k
  bel : Below w0.heap.size w0 wr
  blk : ∀ k, kv.ownBlock = some k → w0.heap.size ≤ k
  done : (spl ver U).2.2 = 0 → D = (spl ver U).1.length

/-- Behind append onto all bytes. -/
theorem AddsAt.mid {w0 wr wx w5 : World} {s : Nat} {ver : Int} {U p : List Int} {allv allv' kv : Value} {D : Nat} (h : AddsAt w0 wr s ver U allv kv D) (hs : w0.heap.size ≤ s) (hB : Below wr.heap.size wr wx) (hk : KeptV w5 allv' (U ++ p)) (hK : Kept (fun k => allv.ownBlock = some k) wx w5) (hat : allv'.ownBlock = allv.ownBlock ∨ allv'.ownBlock = some wx.heap.size) :
    Spl w5 s ver kv (spl ver U).2.1 (spl ver U).2.2 ∧ (∀ k, allv'.ownBlock = some k → k ≠ s ∧ kv.ownBlock ≠ some k ∧ w0.heap.size ≤ k ∧ k < w5.heap.size) ∧ Below w0.heap.size w0 w5 := by
  have hst := h.st.old hB
  have hz := h.bel.size
  have hz2 := hB.size
  refine ⟨hst.keep hK (fun e => (h.apart s e).1 rfl) (fun k e he => (h.apart k he).2.1 e), fun k e => ?_, (h.bel.trans (hB.mono hz)).trans (hK.below (by omega) (fun k _ e => (h.apart k e).2.2))⟩
  have hlt := hk.lt k e
  rcases hat with hat | hat
  · obtain ⟨a, b, c⟩ := h.apart k (by rw [← hat]; exact e)
    exact ⟨a, b, c, hlt⟩
  · rw [hat] at e
    simp only [Option.some.injEq] at e
    subst e
    exact ⟨by have := hst.lt; omega, fun e => by have := hst.kept.lt _ e; omega, by omega, hlt⟩

/-- Behind Add. -/
theorem AddsAt.next {w0 w5 w6 : World} {s : Nat} {ver : Int} {U p : List Int} {allv' kv xv kv' : Value} {ys : List Fr} (hs : w0.heap.size ≤ s) (hblk : ∀ k, kv.ownBlock = some k → w0.heap.size ≤ k) (hB5 : Below w0.heap.size w0 w5) (hk : KeptV w5 allv' (U ++ p)) (hap : ∀ k, allv'.ownBlock = some k → k ≠ s ∧ kv.ownBlock ≠ some k ∧ w0.heap.size ≤ k ∧ k < w5.heap.size)
    (hA : AddedOn w5 w6 s ver kv U p xv kv' ys) : KeptV w6 allv' (U ++ p) ∧ ∀ w7, Below w6.heap.size w6 w7 → ∀ D, ((spl ver (U ++ p)).2.2 = 0 → D = (spl ver (U ++ p)).1.length) → AddsAt w0 w7 s ver (U ++ p) allv' kv' D := by
  have hz := hB5.size
  have hz6 := hA.kept.size
  have hk6 : KeptV w6 allv' (U ++ p) := hk.kept hA.kept (fun k e he => by rcases he with he | he; exact (hap k e).1 he; exact (hap k e).2.1 he)
  refine ⟨hk6, fun w7 hB D hD => ⟨hA.st.old hB, hk6.kept (kept_of (S := fun _ => False) hB) (fun _ _ e => e), fun k e => ?_, ?_, fun k e => ?_, hD⟩⟩
  · obtain ⟨a, b, c, d⟩ := hap k e
    refine ⟨a, fun he => ?_, c⟩
    rcases hA.blk k he with h2 | h2
    · exact b h2
    · omega
  · refine (hB5.trans (hA.kept.below hz (fun k _ e => ?_))).trans (hB.mono (by omega))
    rcases e with e | e
    · omega
    · exact hblk k e
  · rcases hA.blk k e with h2 | h2
    · exact hblk k h2
    · omega

theorem frames_view {w : World} {a : Option Addr} {len cap : Nat} {fs : List Fr} (h : View 6 VFr w a len cap fs) (hl : len ≤ 1000000) :
    Calls Try.prog 16 #[.slice a len cap] w fun e w' => ∃ aa ca, e = .returned (.slice aa len ca) ∧ View 6 VF w' aa len ca fs ∧ Below w.heap.size w w' := by
  have hn := h.1
  refine (framesOf_any h hl).mono ?_
  rintro e w' ⟨v, rfl, ho, hB⟩
  obtain ⟨aa, ca, rfl, hv, _⟩ := ho.view
  rw [hn] at hv
  exact ⟨aa, ca, by rw [← hn], hv, hB⟩

theorem flat_succ {xs : List (List Int)} {k : Nat} (h : k < xs.length) : (xs.take (k + 1)).flatten = (xs.take k).flatten ++ xs.getD k default := by
  rw [List.take_succ_eq_append_getElem h, List.flatten_append, List.getD_eq_getElem?_getD, List.getElem?_eq_getElem h]
  simp
end Go.Proofs.Ytabadlgjocgkjaa
