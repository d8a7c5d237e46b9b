/-
  Rows of rows of bytes; frames that are joined one behind the other.
-/
import Derived.Test.YtabadlgjocgkjaaWaits
namespace Go.Proofs.Ytabadlgjocgkjaa
open Go.RowKit
set_option linter.unusedVariables false
set_option linter.unusedSimpArgs false

def VB (w : World) (X : List Int) (c : Nat → Value) : Prop := ∃ a l cp, c 0 = .slice a l cp ∧ IsB w a l cp X

theorem stays_b : Stays 1 VB := by
  intro w w' S x c c' h hc hK hn
  obtain ⟨a, l, cp, h0, hI⟩ := h
  exact ⟨a, l, cp, (hc 0 (by omega)).trans h0, hI.kept hK (fun p e _ => hn 0 _ (by omega) (by rw [h0, e]; rfl))⟩

/-- One of the rows. -/
theorem View.at {w : World} {a : Option Addr} {len cap : Nat} {xs : List (List Int)} (h : View 1 VB w a len cap xs) {i : Nat} (hi : i < len) :
    ∃ b off a' l cp, a = some ⟨b, off, none⟩ ∧ b < w.heap.size ∧ w.cell? ⟨b, off + i, none⟩ = some (.slice a' l cp) ∧ IsB w a' l cp (xs.getD i default) ∧ l = (xs.getD i default).length ∧ l ≤ cp ∧ cp ≤ maxLen := by
  obtain ⟨h1, h2, h3, h4, h5⟩ := h
  obtain ⟨b, off, rfl, hb, hc⟩ := h5 (by omega)
  obtain ⟨c, hcell, a', l, cp, h0, hI⟩ := hc i hi
  refine ⟨b, off, a', l, cp, rfl, hb, ?_, hI, hI.1.symm, hI.2.1, hI.2.2.1⟩
  have := hcell 0 (by omega)
  rw [h0] at this
  simpa using this

/-- Frames with these heads, of these bodies. -/
def frs (v f s o : Int) (xs : List (List Int)) : List Fr := xs.map fun X => (v, f, s, o, (X.length : Int), X)

theorem frs_take (v f s o : Int) (xs : List (List Int)) (k : Nat) (h : k < xs.length) : joinL ((frs v f s o xs).take (k + 1)) = joinL ((frs v f s o xs).take k) ++ (hdB v f s o ((xs.getD k default).length : Nat) ++ xs.getD k default) := by
  have hl : k < (frs v f s o xs).length := by simpa [frs] using h
  rw [List.take_succ_eq_append_getElem hl]
  unfold joinL
  rw [List.map_append, List.flatten_append]
  congr 1
  simp only [List.map_cons, List.map_nil, List.flatten_cons, List.flatten_nil, List.append_nil]
  have e : (frs v f s o xs)[k] = (v, f, s, o, ((xs[k]).length : Int), xs[k]) := by simp [frs]
  rw [e, List.getD_eq_getElem?_getD, List.getElem?_eq_getElem h]
  rfl

theorem joinL_len (l : List Fr) (m : Nat) (h : ∀ x ∈ l, x.b.length ≤ m) : (joinL l).length ≤ (9 + m) * l.length := by
  induction l with
  | nil => simp [joinL]
  | cons x l ih =>
    have := ih (fun y hy => h y (by simp [hy]))
    have := h x (by simp)
    have e : (joinL (x :: l)).length = (jB x).length + (joinL l).length := by simp [joinL]
    rw [e, jB_len, List.length_cons, Nat.mul_succ]
    omega

theorem frs_ok {v f s o : Int} {xs : List (List Int)} (m : Nat) (hm : m ≤ 1000000) (h : ∀ X ∈ xs, X.length ≤ m) (h1 : 0 ≤ v ∧ v ≤ 255) (h2 : 0 ≤ f ∧ f ≤ 255) (h3 : -32768 ≤ s ∧ s ≤ 32767) (h4 : 0 ≤ o ∧ o ≤ 255) (hc : ∀ l : Int, l ≤ 1048576 → chk v f o l = 0) : ∀ x ∈ frs v f s o xs, FOk v x := by
  intro x hx
  obtain ⟨X, hX, rfl⟩ := List.mem_map.1 hx
  have := h X hX
  exact ⟨hok_lit v f s o X.length (by omega) h1 h2 h3 h4, hc _ (by show (X.length : Int) ≤ _; omega), rfl, rfl⟩
end Go.Proofs.Ytabadlgjocgkjaa
