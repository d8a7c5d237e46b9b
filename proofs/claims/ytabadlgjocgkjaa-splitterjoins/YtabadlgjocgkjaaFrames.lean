/-
  Frames in memory: the program's (header and bytes), and the document's (header and text).
-/
import Derived.Test.YtabadlgjocgkjaaTake6
namespace Go.Proofs.Ytabadlgjocgkjaa
open Go.RowKit
set_option linter.unusedVariables false
set_option linter.unusedSimpArgs false

def VFr (w : World) (x : Fr) (c : Nat → Value) : Prop :=
  c 0 = .int .u8 x.v ∧ c 1 = .int .u8 x.f ∧ c 2 = .int .i16 x.s ∧ c 3 = .int .u8 x.o ∧ c 4 = .int .u32 x.l ∧ ∃ a l cp, c 5 = .slice a l cp ∧ IsB w a l cp x.b
def VF (_ : World) (x : Fr) (c : Nat → Value) : Prop :=
  c 0 = .int .u8 x.v ∧ c 1 = .int .u8 x.f ∧ c 2 = .int .i16 x.s ∧ c 3 = .int .u8 x.o ∧ c 4 = .int .u32 x.l ∧ c 5 = .string (strOfNums x.b)

theorem stays_fr : Stays 6 VFr := by
  intro w w' S x c c' h hc hK hn
  obtain ⟨h0, h1, h2, h3, h4, a, l, cp, h5, hI⟩ := h
  refine ⟨(hc 0 (by omega)).trans h0, (hc 1 (by omega)).trans h1, (hc 2 (by omega)).trans h2, (hc 3 (by omega)).trans h3, (hc 4 (by omega)).trans h4, a, l, cp, (hc 5 (by omega)).trans h5, hI.kept hK (fun p e _ => hn 5 _ (by omega) ?_)⟩
  rw [h5, e]; rfl

theorem stays_f : Stays 6 VF := by
  intro w w' S x c c' h hc hK hn
  obtain ⟨h0, h1, h2, h3, h4, h5⟩ := h
  exact ⟨(hc 0 (by omega)).trans h0, (hc 1 (by omega)).trans h1, (hc 2 (by omega)).trans h2, (hc 3 (by omega)).trans h3, (hc 4 (by omega)).trans h4, (hc 5 (by omega)).trans h5⟩

theorem Try.info44 : (Try.prog.info? 44).map (fun i => (i.zero, i.size, i.bytes)) = some (some (.agg #[.int .u8 0, .int .u8 0, .int .i16 0, .int .u8 0, .int .u32 0, .slice none 0 0]), 6, 40) := by kernel_rfl
theorem Try.info50 : (Try.prog.info? 50).map (fun i => (i.zero, i.size, i.bytes)) = some (some (.agg #[.int .u8 0, .int .u8 0, .int .i16 0, .int .u8 0, .int .u32 0, .string ⟨#[]⟩]), 6, 32) := by kernel_rfl

theorem elem_fr : Elem 31 44 6 40 := by
  obtain ⟨i0, hi, hz0, hz1, hz2⟩ := info_parts Try.info44
  exact ⟨by decide, Try.underlying31, i0, _, hi, hz0, hz1, hz2, rfl⟩
theorem elem_f : Elem 27 50 6 32 := by
  obtain ⟨i0, hi, hz0, hz1, hz2⟩ := info_parts Try.info50
  exact ⟨by decide, Try.underlying27, i0, _, hi, hz0, hz1, hz2, rfl⟩

/-- How long a slice is. -/
def lenV : Value → Nat | .slice _ n _ => n | _ => 0

theorem Own.lenV {α : Type} [Inhabited α] {e : TypeId} {size : Nat} {V : World → α → (Nat → Value) → Prop} {w : World} {F : Nat → Prop} {v : Value} {xs : List α} (h : Own e size V w F v xs) : lenV v = xs.length := by
  obtain ⟨a, cap, rfl, _, _⟩ := h.view; rfl
end Go.Proofs.Ytabadlgjocgkjaa
