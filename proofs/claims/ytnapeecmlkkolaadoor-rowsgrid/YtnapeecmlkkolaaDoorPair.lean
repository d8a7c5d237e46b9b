/-
  What is got, as one function of the bytes, and the contracts of the program's and the document's functions said by it.
-/
import Derived.Test.YtnapeecmlkkolaaDoorValuePut
namespace Go.Proofs.YtnapeecmlkkolaaDoor
open Go.RowKit
set_option linter.unusedVariables false
set_option linter.unusedSimpArgs false

/-- What a text or a value that is got is: its kind, its bytes, how many bytes are done with, the error. -/
structure Ans where
  kind : Int
  bytes : List Int
  done : Nat
  err : Int

def textA (zs : List Int) : Ans :=
  if zs.length < 2 then ⟨0, [], 0, 10⟩ else if ((zs.length - 2 : Nat) : Int) < numTo zs 2 then ⟨0, [], 0, 10⟩ else ⟨0, (zs.drop 2).take (numTo zs 2).toNat, 2 + (numTo zs 2).toNat, 0⟩

/-- What is behind: nothing at an error, else the bytes from a place on. -/
def Behind (w : World) (a r : Option Addr) (lr cr : Nat) (zs : List Int) (d : Nat) (er : Int) : Prop :=
  (er ≠ 0 ∧ lr = 0) ∨ (er = 0 ∧ d ≤ zs.length ∧ 0 < zs.length ∧ ∃ b o off, a = some ⟨b, o, none⟩ ∧ r = some ⟨b, off, none⟩ ∧ b < w.heap.size ∧ BRow w b off lr cr (zs.drop d))

theorem Behind.old {w W : World} {a r : Option Addr} {lr cr : Nat} {zs : List Int} {d : Nat} {er : Int} (h : Behind w a r lr cr zs d er) (hB : Below w.heap.size w W) : Behind W a r lr cr zs d er := by
  rcases h with h | ⟨h1, h2, h3, b, o, off, h0, h4, h5, h6⟩
  · exact .inl h
  · exact .inr ⟨h1, h2, h3, b, o, off, h0, h4, Nat.lt_of_lt_of_le h5 hB.size, h6.old hB⟩

theorem str_nil : ByteArray.empty = strOfNums [] := rfl

theorem getText_any {w : World} {a : Option Addr} {len cap : Nat} {zs : List Int} (h : IsB w a len cap zs) (hsm : len ≤ 140737488351232) :
    Calls Tryd.prog 71 #[.slice a len cap] w fun e w' => ∃ r lr cr, e = .returned (.tuple #[.string (strOfNums (textA zs).bytes), .slice r lr cr, .int .i64 (textA zs).err]) ∧ Hid (Behind w' a r lr cr zs (textA zs).done (textA zs).err) ∧ Below w.heap.size w w' := by
  obtain ⟨h1, h2, h3, h4, h5⟩ := h
  subst h1
  by_cases hl : zs.length < 2
  · simp only [textA, if_pos hl]
    refine (getText_short0 a _ cap w hl).mono ?_
    rintro e w' ⟨rfl, hB⟩
    exact ⟨none, 0, 0, by rw [str_nil], .inl ⟨by decide, rfl⟩, hB⟩
  · obtain ⟨b, off, rfl, hR⟩ := h5 (by omega)
    have hb := hR.lt (by omega)
    simp only [textA, if_neg hl]
    by_cases hn : ((zs.length - 2 : Nat) : Int) < numTo zs 2
    · simp only [if_pos hn]
      refine (getText_short hR (by omega) hn).mono ?_
      rintro e w' ⟨rfl, hB⟩
      exact ⟨none, 0, 0, by rw [str_nil], .inl ⟨by decide, rfl⟩, hB⟩
    · simp only [if_neg hn]
      have h0 := (numTo_bound zs hR.rng 2 (by omega)).1
      obtain ⟨n, hn2⟩ := Int.eq_ofNat_of_zero_le h0
      rw [hn2, Int.toNat_natCast]
      refine (getText_yes hR hsm n (by omega) hn2).mono ?_
      rintro e w' ⟨off', rfl, hR', hB⟩
      exact ⟨_, _, _, rfl, .inr ⟨rfl, by omega, by omega, b, off, off', rfl, rfl, Nat.lt_of_lt_of_le hb hB.size, hR'⟩, hB⟩

theorem BRow.isB {w : World} {b off len cap : Nat} {zs : List Int} (h : BRow w b off len cap zs) : IsB w (some ⟨b, off, none⟩) len cap zs :=
  ⟨h.len_eq, h.le, h.cap_le, (fun e => by cases e), fun _ => ⟨b, off, rfl, h⟩⟩

theorem isB_nil (w : World) : IsB w none 0 0 [] := ⟨rfl, Nat.le_refl _, by unfold maxLen; omega, fun _ => ⟨rfl, rfl⟩, fun h => by omega⟩

/-- A slice's place is new: nil, or a block from base on that is there. -/
def Fresh (base : Nat) (w : World) (x : Option Addr) : Prop := ∀ p, x = some p → base ≤ p.block ∧ p.block < w.heap.size

theorem Fresh.none {base : Nat} {w : World} : Fresh base w Option.none := fun p h => by cases h

theorem Fresh.at {base : Nat} {w : World} {g k : Nat} (h : base ≤ g) (hl : g < w.heap.size) : Fresh base w (some ⟨g, k, Option.none⟩) := fun p e => by cases e; exact ⟨h, hl⟩
end Go.Proofs.YtnapeecmlkkolaaDoor
