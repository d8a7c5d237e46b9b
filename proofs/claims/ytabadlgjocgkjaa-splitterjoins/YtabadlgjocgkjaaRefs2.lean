/-
  The contract of the laws' framesOf.
-/
import Derived.Test.YtabadlgjocgkjaaRefs
namespace Go.Proofs.Ytabadlgjocgkjaa
open Go.RowKit
set_option linter.unusedVariables false
set_option linter.unusedSimpArgs false

/-- The cells of one frame of a row of them. -/
structure FrCells (w : World) (b p : Nat) (x : Fr) (a : Option Addr) (l c : Nat) : Prop where
  c0 : w.cell? ⟨b, p, none⟩ = some (.int .u8 x.v)
  c1 : w.cell? ⟨b, p + 1, none⟩ = some (.int .u8 x.f)
  c2 : w.cell? ⟨b, p + 2, none⟩ = some (.int .i16 x.s)
  c3 : w.cell? ⟨b, p + 3, none⟩ = some (.int .u8 x.o)
  c4 : w.cell? ⟨b, p + 4, none⟩ = some (.int .u32 x.l)
  c5 : w.cell? ⟨b, p + 5, none⟩ = some (.slice a l c)
  isB : IsB w a l c x.b
  lt : b < w.heap.size

theorem View.fr_cells {w : World} {a : Option Addr} {len cap : Nat} {fs : List Fr} (h : View 6 VFr w a len cap fs) {i : Nat} (hi : i < len) :
    ∃ b off a' l cp, a = some ⟨b, off, none⟩ ∧ FrCells w b (off + i * 6) (fs.getD i default) a' l cp := by
  obtain ⟨b, off, a', l, cp, rfl, hb, q0, q1, q2, q3, q4, q5, hI⟩ := h.fr_at hi
  refine ⟨b, off, a', l, cp, rfl, q0, ?_, ?_, ?_, ?_, ?_, hI, hb⟩ <;> (rw [Nat.add_assoc]; assumption)

theorem FrCells.old {w W : World} {b p : Nat} {x : Fr} {a : Option Addr} {l c : Nat} (h : FrCells w b p x a l c) (hB : Below w.heap.size w W) : FrCells W b p x a l c :=
  ⟨(hB.cell h.lt).trans h.c0, (hB.cell h.lt).trans h.c1, (hB.cell h.lt).trans h.c2, (hB.cell h.lt).trans h.c3, (hB.cell h.lt).trans h.c4, (hB.cell h.lt).trans h.c5, h.isB.old hB, Nat.lt_of_lt_of_le h.lt hB.size⟩

/-- The cells of the document's frame. -/
def flatF (x : Fr) : List Value := [.int .u8 x.v, .int .u8 x.f, .int .i16 x.s, .int .u8 x.o, .int .u32 x.l, .string (strOfNums x.b)]

theorem flatF_one (x : Fr) : ∀ u ∈ flatF x, u.oneCell' = true := by
  intro u hu
  simp only [flatF, List.mem_cons, List.not_mem_nil, or_false] at hu
  rcases hu with rfl | rfl | rfl | rfl | rfl | rfl <;> rfl

theorem flatF_block {x : Fr} {P : Nat → Prop} : ∀ j k, j < 6 → ((flatF x).getD j default).ownBlock = some k → P k := by
  intro j k hj hk
  rcases (show j = 0 ∨ j = 1 ∨ j = 2 ∨ j = 3 ∨ j = 4 ∨ j = 5 from by omega) with rfl | rfl | rfl | rfl | rfl | rfl <;> cases hk

theorem flatF_v (w : World) (x : Fr) : VF w x (fun j => (flatF x).getD j default) := ⟨rfl, rfl, rfl, rfl, rfl, rfl⟩

theorem take_snoc' {fs : List Fr} {k : Nat} (h : k < fs.length) : fs.take k ++ [fs.getD k default] = fs.take (k + 1) := by
  rw [List.take_succ_eq_append_getElem h, List.getD_eq_getElem?_getD, List.getElem?_eq_getElem h]; rfl

/-- What is held of a frame in a world. -/
def HeldF (w : World) (b p : Nat) (x : Fr) (a : Option Addr) (l c : Nat) : Prop :=
  w.cell? ⟨b, p, none⟩ = some (.int .u8 (Fr.v x)) ∧ w.cell? ⟨b, p + 1, none⟩ = some (.int .u8 (Fr.f x)) ∧ w.cell? ⟨b, p + 2, none⟩ = some (.int .i16 (Fr.s x)) ∧ w.cell? ⟨b, p + 3, none⟩ = some (.int .u8 (Fr.o x)) ∧ w.cell? ⟨b, p + 4, none⟩ = some (.int .u32 (Fr.l x)) ∧ w.cell? ⟨b, p + 5, none⟩ = some (.slice a l c) ∧ (convert 26 9 (.slice a l c)).run Try.prog w = .ok (.string (strOfNums (Fr.b x))) w

theorem FrCells.held {w : World} {b p : Nat} {x : Fr} {a : Option Addr} {l c : Nat} (h : FrCells w b p x a l c) : HeldF w b p x a l c := ⟨h.c0, h.c1, h.c2, h.c3, h.c4, h.c5, h.isB.conv⟩

theorem frames_called {w wr w2 : World} {b p : Nat} {x : Fr} {a : Option Addr} {l c : Nat} {v : Value} {acc : List Fr} (hO : Own 50 6 VF wr (fun k => w.heap.size ≤ k) v acc) (hB : Below w.heap.size w wr) (hF : FrCells w b p x a l c) (hB2 : Below wr.drew.heap.size wr.drew w2) :
    Hid (Below w.heap.size w w2) ∧ Hid (Own 50 6 VF (w2.alloc (.cells #[.int .u8 (Fr.v x), .int .u8 (Fr.f x), .int .i16 (Fr.s x), .int .u8 (Fr.o x), .int .u32 (Fr.l x), .string (strOfNums (Fr.b x))] 50)) (fun k => w.heap.size ≤ k) v acc) ∧ HeldF w2 b p x a l c ∧ HeldF (w2.alloc (.cells #[.int .u8 (Fr.v x), .int .u8 (Fr.f x), .int .i16 (Fr.s x), .int .u8 (Fr.o x), .int .u32 (Fr.l x), .string (strOfNums (Fr.b x))] 50)) b p x a l c := by
  have h1 : Below wr.heap.size wr w2 := (Below.refl _ _).drew.trans hB2
  have h2 : Below w.heap.size w w2 := hB.trans (h1.mono hB.size)
  exact ⟨h2, (hO.old stays_f h1).old stays_f (below_one _ _), (hF.old h2).held, (hF.old (h2.trans ((below_one _ _).mono h2.size))).held⟩

theorem frames_kept {w w2 w3 : World} {o : Obj} {b p : Nat} {x : Fr} {a : Option Addr} {l c : Nat} {v v3 : Value} {acc xs : List Fr} (hN : acc ++ [x] = xs) (hO : Own 50 6 VF (w2.alloc o) (fun k => w.heap.size ≤ k) v acc) (hB : Below w.heap.size w w2) (hF : FrCells w b p x a l c)
    (ho : Own 50 6 VF w3 (fun k => w.heap.size ≤ k) v3 (acc ++ [x])) (hK : Kept (fun k => v.ownBlock = some k) (w2.alloc o) w3) : Hid (Own 50 6 VF w3 (fun k => w.heap.size ≤ k) v3 xs) ∧ Hid (Below w.heap.size w w3) ∧ HeldF w3 b p x a l c := by
  have h3 : Below w.heap.size w w3 := (hB.trans ((below_one _ _).mono hB.size)).trans (hK.below (by have := hB.size; simp; omega) (fun k _ e => (hO.lt k e).1))
  exact ⟨by rw [← hN]; exact ho, h3, (hF.old h3).held⟩

set_option maxRecDepth 100000 in
set_option maxHeartbeats 1000000 in
theorem framesOf_any {w : World} {a : Option Addr} {len cap : Nat} {fs : List Fr} (h : View 6 VFr w a len cap fs) (hl : len ≤ 1000000) :
    Calls Try.prog 16 #[.slice a len cap] w fun e w' => ∃ v, e = .returned v ∧ Own 50 6 VF w' (fun k => w.heap.size ≤ k) v fs ∧ Below w.heap.size w w' := by
  have HLX : Hid (fs.length = len) := h.1
  have H : Hid (View 6 VFr w a len cap fs) := h
  clear h
  go_enter Try.func16, Try.ntmps16
  go_wp2_with fail
  go_loopw [3, 4] (fun v i wr => ∃ (k : Nat), k ≤ len ∧ i = .int .i64 k ∧ Hid (Own 50 6 VF wr (fun k => w.heap.size ≤ k) v (fs.take k)) ∧ Below w.heap.size w wr) (fun _ i _ => len - (intOf i).toNat)
  case atStart => exact ⟨0, by omega, rfl, own_nil _ _ _ _ _, Below.refl _ _⟩
  case round =>
    obtain ⟨k, hk, rfl, HO, hB⟩ := hrel
    by_cases hlt : k < len
    · obtain ⟨b, off, a1, l1, c1, ha, hF⟩ := H.out.fr_cells hlt
      subst ha
      have HF : Hid (FrCells w b (off + k * 6) (fs.getD k default) a1 l1 c1) := hF
      obtain ⟨x, hx⟩ : ∃ x, x = fs.getD k default := ⟨_, rfl⟩
      rw [← hx] at HF
      have HN : Hid (fs.take k ++ [x] = fs.take (k + 1)) := by rw [hx]; exact take_snoc' (by rw [HLX.out]; exact hlt)
      obtain ⟨acc, hacc⟩ : ∃ acc, acc = fs.take k := ⟨_, rfl⟩
      have hml : acc.length = k := by rw [hacc, List.length_take, HLX.out]; omega
      rw [← hacc] at HO HN
      have HM : Hid (acc.length + 1 ≤ maxLen ∧ (acc.length + 1) * 32 ≤ 140737488355328) := by
        show _ ∧ _
        unfold maxLen; omega
      have hbs := hB.size
      have HB : Hid (Below w.heap.size w wr) := hB
      have hbw : b < wr.heap.size := Nat.lt_of_lt_of_le hF.lt hbs
      obtain ⟨q0, q1, q2, q3, q4, q5, hI, _⟩ := HF.out.old hB
      have cv : (convert 26 9 (.slice a1 l1 c1)).run Try.prog wr.drew = .ok (.string (strOfNums x.b)) wr.drew := (hI.old (Below.refl _ _).drew).conv
      clear hx hacc hml hF hI
      go_wp2_with fail
      go_region_held3 (fun w' => w'.cell? ⟨b, off + k * 6, none⟩ = some (.int .u8 (Fr.v x)) ∧ w'.cell? ⟨b, off + k * 6 + 1, none⟩ = some (.int .u8 (Fr.f x)) ∧ w'.cell? ⟨b, off + k * 6 + 2, none⟩ = some (.int .i16 (Fr.s x)) ∧ w'.cell? ⟨b, off + k * 6 + 3, none⟩ = some (.int .u8 (Fr.o x)) ∧ w'.cell? ⟨b, off + k * 6 + 4, none⟩ = some (.int .u32 (Fr.l x)) ∧ w'.cell? ⟨b, off + k * 6 + 5, none⟩ = some (.slice a1 l1 c1) ∧ (convert 26 9 (.slice a1 l1 c1)).run Try.prog w' = .ok (.string (strOfNums (Fr.b x))) w')
        (refine ⟨?_, ?_, ?_, ?_, ?_, ?_, ?_⟩ <;> first | assumption | (simp [*, World.cell?_alloc_some]; done))
        (first
          | (go_at_call 24; refine (headOf_any _ _ _ _ _ _).mono ?_; rintro e w2 ⟨rfl, hB2⟩; obtain ⟨HB2, HO2, ⟨d0, d1, d2, d3, d4, d5, cv2⟩, ⟨f0, f1, f2, f3, f4, f5, cv3⟩⟩ := frames_called HO.out HB.out HF.out hB2; clear hB2)
          | (refine step_append_item rfl (.tmp 11) (.tmp 25) 27 rfl stays_f elem_f (by rfl) HO2.out (by rfl) (heap_alloc_new w2 _) rfl (flatF_one x) x (flatF_v _ x) flatF_block (by have := HB2.out.size; simp; omega) HM.out.1 HM.out.2 ?_; intro v3 w3 ho3 hK3 hat3; obtain ⟨HO3, HB3, ⟨g0, g1, g2, g3, g4, g5, cv4⟩⟩ := frames_kept HN.out HO2.out HB2.out HF.out ho3 hK3; clear ho3 hK3 hat3))
      go_wp2_with fail
      go_roundw
      case rel => exact ⟨k + 1, by omega, by go_num, HO3, HB3.out⟩
      case measure => simp [intOf]; omega
    · have HE : Hid (Own 50 6 VF wr (fun k => w.heap.size ≤ k) u3 fs) := by
        have := HO.out
        rw [List.take_of_length_le (by rw [HLX.out]; omega)] at this
        exact this
      go_wp2_with fail
      go_ret
      exact ⟨_, rfl, HE.out, hB⟩
end Go.Proofs.Ytabadlgjocgkjaa
