/-
  The contracts of header.read, header.Get and of the document's own Get.
-/
import Derived.Test.YtabadlgjocgkjaaPut
namespace Go.Proofs.Ytabadlgjocgkjaa
open Go.RowKit
set_option linter.unusedVariables false
set_option linter.unusedSimpArgs false

/-- The header of nine bytes: the stream with its sign, the length of four bytes. -/
def strm (zs : List Int) : Int := sgn (zs.getD 2 0 * 256 + zs.getD 3 0) 2
def leng (zs : List Int) : Int := ((zs.getD 5 0 * 256 + zs.getD 6 0) * 256 + zs.getD 7 0) * 256 + zs.getD 8 0

theorem numTo_one (zs : List Int) (h : 1 ≤ zs.length) : numTo zs 1 = zs.getD 0 0 := by
  match zs, h with
  | a :: r, _ => simp [numTo]

theorem numTo_two (zs : List Int) (h : 2 ≤ zs.length) : numTo zs 2 = zs.getD 0 0 * 256 + zs.getD 1 0 := by
  match zs, h with
  | a :: b :: r, _ => simp [numTo]

theorem numTo_four (zs : List Int) (h : 4 ≤ zs.length) : numTo zs 4 = ((zs.getD 0 0 * 256 + zs.getD 1 0) * 256 + zs.getD 2 0) * 256 + zs.getD 3 0 := by
  match zs, h with
  | a :: b :: c :: d :: r, _ => simp [numTo]

theorem getD_drop (zs : List Int) (k i : Nat) : (zs.drop k).getD i 0 = zs.getD (k + i) 0 := by
  simp [List.getD_eq_getElem?_getD, List.getElem?_drop]

theorem getD_rng {zs : List Int} (h : ∀ j : Nat, 0 ≤ zs[j]?.getD 0 ∧ zs[j]?.getD 0 ≤ 255) (j : Nat) : 0 ≤ zs.getD j 0 ∧ zs.getD j 0 ≤ 255 := by
  rw [List.getD_eq_getElem?_getD]; exact h j

theorem hok_of {zs : List Int} (h : ∀ j : Nat, 0 ≤ zs[j]?.getD 0 ∧ zs[j]?.getD 0 ≤ 255) : HOk (zs.getD 0 0) (zs.getD 1 0) (strm zs) (zs.getD 4 0) (leng zs) := by
  have h0 := getD_rng h 0; have h1 := getD_rng h 1; have h2 := getD_rng h 2; have h3 := getD_rng h 3; have h4 := getD_rng h 4
  have h5 := getD_rng h 5; have h6 := getD_rng h 6; have h7 := getD_rng h 7; have h8 := getD_rng h 8
  unfold strm leng sgn
  generalize zs.getD 0 0 = z0 at *; generalize zs.getD 1 0 = z1 at *; generalize zs.getD 2 0 = z2 at *; generalize zs.getD 3 0 = z3 at *; generalize zs.getD 4 0 = z4 at *
  generalize zs.getD 5 0 = z5 at *; generalize zs.getD 6 0 = z6 at *; generalize zs.getD 7 0 = z7 at *; generalize zs.getD 8 0 = z8 at *
  simp only [show 8 * 2 - 1 = 15 from rfl, show 8 * 2 = 16 from rfl]
  constructor <;> (try split) <;> omega

/-- The box of a struct of five: none of it is frozen, whatever is made later. -/
theorem box5f {w W : World} {a b c d e : Value} {t : TypeId} (hB : Below (w.heap.size + 1) (w.alloc (.cells #[a, b, c, d, e] t)) W) :
    W.frozen? ⟨w.heap.size, 0, none⟩ = false ∧ W.frozen? ⟨w.heap.size, 1, none⟩ = false ∧ W.frozen? ⟨w.heap.size, 2, none⟩ = false ∧ W.frozen? ⟨w.heap.size, 3, none⟩ = false ∧ W.frozen? ⟨w.heap.size, 4, none⟩ = false := by
  refine ⟨?_, ?_, ?_, ?_, ?_⟩ <;> (rw [hB.frozen (by simp)]; simp [go_sem])

theorem below_five {w W : World} {o : Obj} (hB : Below (w.heap.size + 1) (w.alloc o) W) (a b c d e : Value) :
    Below w.heap.size w (((((W.setCell ⟨w.heap.size, 0, none⟩ a).setCell ⟨w.heap.size, 1, none⟩ b).setCell ⟨w.heap.size, 2, none⟩ c).setCell ⟨w.heap.size, 3, none⟩ d).setCell ⟨w.heap.size, 4, none⟩ e) :=
  ((((((below_one w o).trans (hB.mono (by omega))).setCell (Nat.le_refl _) _).setCell (Nat.le_refl _) _).setCell (Nat.le_refl _) _).setCell (Nat.le_refl _) _).setCell (Nat.le_refl _) _

set_option maxHeartbeats 1000000 in
theorem read_any {w : World} {b off len cap : Nat} {zs : List Int} (h : BRow w b off len cap zs) (hl : 9 ≤ len) :
    Calls Try.prog 32 #[.slice (some ⟨b, off, none⟩) len cap] w fun e w' => e = .returned (.agg #[.int .u8 (zs.getD 0 0), .int .u8 (zs.getD 1 0), .int .i16 (strm zs), .int .u8 (zs.getD 4 0), .int .u32 (leng zs)]) ∧ Below w.heap.size w w' := by
  have hzl := h.len_eq
  have hr := h.rng
  have H : Hid (BRow (w.alloc (.cells #[.int .u8 0, .int .u8 0, .int .i16 0, .int .u8 0, .int .u32 0] 42)) b off len cap zs) := h.old (below_one _ _)
  have HZ : Hid (zs.length = len) := hzl
  have HK : Hid _ := hok_of hr
  clear h hzl
  go_enter Try.func32, Try.ntmps32
  go_wp2_with fail
  refine (bget H.out 1 (by omega) (by omega) (by omega) _ rfl).mono ?_
  rintro e w1 ⟨o1, rfl, hR1, hB1⟩
  have H1 : Hid _ := hR1
  rw [numTo_one zs (by rw [HZ.out]; omega)]
  clear hR1
  go_wp2_with fail
  refine (bget H1.out 1 (by omega) (by omega) (by omega) _ rfl).mono ?_
  rintro e w2 ⟨o2, rfl, hR2, hB2⟩
  have H2 : Hid _ := hR2
  rw [numTo_one (zs.drop 1) (by rw [List.length_drop, HZ.out]; omega), getD_drop]
  clear hR2
  go_wp2_with fail
  refine (bget H2.out 2 (by omega) (by omega) (by omega) _ rfl).mono ?_
  rintro e w3 ⟨o3, rfl, hR3, hB3⟩
  have H3 : Hid _ := hR3
  rw [numTo_two ((zs.drop 1).drop 1) (by rw [List.length_drop, List.length_drop, HZ.out]; omega)]
  simp only [getD_drop]
  clear hR3
  go_wp2_with fail
  refine (bget H3.out 1 (by omega) (by omega) (by omega) _ rfl).mono ?_
  rintro e w4 ⟨o4, rfl, hR4, hB4⟩
  have H4 : Hid _ := hR4
  rw [numTo_one (((zs.drop 1).drop 1).drop 2) (by rw [List.length_drop, List.length_drop, List.length_drop, HZ.out]; omega)]
  simp only [getD_drop]
  clear hR4
  go_wp2_with fail
  refine (bget H4.out 4 (by omega) (by omega) (by omega) _ rfl).mono ?_
  rintro e w5 ⟨o5, rfl, hR5, hB5⟩
  rw [numTo_four ((((zs.drop 1).drop 1).drop 2).drop 1) (by rw [List.length_drop, List.length_drop, List.length_drop, List.length_drop, HZ.out]; omega)]
  simp only [getD_drop]
  clear hR5
  go_wp2_with fail
  refine (signed_yes _ 2 _ (by omega) (by omega)).mono ?_
  rintro e w6 ⟨rfl, rfl⟩
  have hS : sgn (zs[2]?.getD 0 * 256 + zs[3]?.getD 0) 2 = strm zs := by simp [strm, List.getD_eq_getElem?_getD]
  rw [hS]
  have s0 := HK.out.s0
  have s1 := HK.out.s1
  obtain ⟨r0, r0'⟩ := hr 0
  obtain ⟨r1, r1'⟩ := hr 1
  obtain ⟨r4, r4'⟩ := hr 4
  have hL : ((zs[5]?.getD 0 * 256 + zs[6]?.getD 0) * 256 + zs[7]?.getD 0) * 256 + zs[8]?.getD 0 = leng zs := by simp [leng, List.getD_eq_getElem?_getD]
  have l0 := HK.out.l0
  have l1 := HK.out.l1
  clear hS
  have hB' : Below (w.heap.size + 1) (w.alloc (.cells #[.int .u8 0, .int .u8 0, .int .i16 0, .int .u8 0, .int .u32 0] 42)) w6 := by
    have e := hB1.trans (hB2.mono hB1.size)
    have e := e.trans (hB3.mono e.size)
    have e := e.trans (hB4.mono e.size)
    have e := e.trans (hB5.mono e.size)
    exact e.mono (by simp)
  obtain ⟨c0, c1, c2, c3, c4, hz⟩ := box5 hB'
  obtain ⟨g0, g1, g2, g3, g4⟩ := box5f hB'
  clear hB1 hB2 hB3 hB4 hB5 H H1 H2 H3 H4 hr HK
  go_wp2_with fail
  refine bodyPost_ret (v := .agg #[.int .u8 (zs.getD 0 0), .int .u8 (zs.getD 1 0), .int .i16 (strm zs), .int .u8 (zs.getD 4 0), .int .u32 (leng zs)]) (by simp [results, Try.results32, go_sem, c0, c1, c2, c3, c4, hz]; omega) rfl ⟨rfl, below_five hB' _ _ _ _ _⟩
end Go.Proofs.Ytabadlgjocgkjaa
