/-
  The document's examples, as the statements ask them first: awake answers true, and turns nothing that was there.
-/
import Derived.Test.YtakaonfeegfmpaaDoorTextT
namespace Go.Proofs.YtakaonfeegfmpaaDoor
open Go.RowKit
set_option linter.unusedVariables false
set_option linter.unusedSimpArgs false

theorem isB_block {w : World} {g : Nat} {X : List Int} (h : w.heap[g]? = some (.cells (X.map (Value.int .u8)).toArray 5 (0, 0))) (hr : ∀ j : Nat, 0 ≤ X[j]?.getD 0 ∧ X[j]?.getD 0 ≤ 255) (hl : X.length ≤ maxLen) : IsB w (some ⟨g, 0, none⟩) X.length X.length X := by
  refine ⟨rfl, Nat.le_refl _, hl, (fun e => by cases e), fun hp => ⟨g, 0, rfl, rfl, Nat.le_refl _, hl, fun _ => (Array.getElem?_eq_some_iff.1 h).1, fun i hi => ?_, hr⟩⟩
  rw [Nat.zero_add]; exact row_cell h i hi

/-- One kid in a block. -/
theorem sees_one {n : Nat} {F : Nat → Prop} {w : World} {g : Nat} {x : Ty} {na : Option Addr} {nl nc : Nat} {ka : Option Addr} {kl kc : Nat} (hb : w.heap[g]? = some (.cells #[.int .u16 x.id, .string x.space, .string x.name, .slice na nl nc, .slice ka kl kc] 26 (0, 0))) (hF : F g) (h : TyAt n F w x na nl nc ka kl kc) :
    Sees 5 F (VT (n + 1) F w) w (some ⟨g, 0, none⟩) 1 1 [x] := by
  refine ⟨rfl, Nat.le_refl _, by unfold maxLen; omega, (fun e => by cases e), fun hp => ⟨g, 0, rfl, (Array.getElem?_eq_some_iff.1 hb).1, hF, fun i y hy => ?_⟩⟩
  have hi : i = 0 := by
    have := (List.getElem?_eq_some_iff.1 hy).1
    simp at this; exact this
  subst hi
  obtain rfl : x = y := by simpa using hy
  refine ⟨_, fun j hj => ?_, h.vt⟩
  rw [Nat.zero_add, Nat.zero_mul, Nat.zero_add, Lib.cell_of_heap hb]
  rcases (show j = 0 ∨ j = 1 ∨ j = 2 ∨ j = 3 ∨ j = 4 by omega) with rfl | rfl | rfl | rfl | rfl <;> rfl

def plainTy (id : Int) : Ty := ⟨id, ⟨#[]⟩, ⟨#[]⟩, [], []⟩

theorem tyAt_plain (n : Nat) (F : Nat → Prop) (w : World) (id : Int) (h0 : 0 ≤ id) (h1 : id < 65536) : TyAt n F w (plainTy id) none 0 0 none 0 0 :=
  ⟨⟨h0, h1⟩, by unfold maxLen; show 0 ≤ _; omega, by unfold maxLen; show 0 ≤ _; omega, sees_nil _ _ _ _, sees_nil _ _ _ _⟩

def ofOne (id : Int) (x : Ty) : Ty := ⟨id, ⟨#[]⟩, ⟨#[]⟩, [], [x]⟩

theorem tyAt_ofOne {n : Nat} {F : Nat → Prop} {w : World} {g : Nat} {x : Ty} {id : Int} {ka : Option Addr} {kl kc : Nat} (h0 : 0 ≤ id) (h1 : id < 65536) (hb : w.heap[g]? = some (.cells #[.int .u16 x.id, .string x.space, .string x.name, .slice none 0 0, .slice ka kl kc] 26 (0, 0))) (hF : F g) (h : TyAt n F w x none 0 0 ka kl kc) :
    TyAt (n + 1) F w (ofOne id x) none 0 0 (some ⟨g, 0, none⟩) 1 1 :=
  ⟨⟨h0, h1⟩, by unfold maxLen; show 0 ≤ _; omega, by unfold maxLen; show 0 ≤ _; omega, sees_nil _ _ _ _, sees_one hb hF h⟩

theorem aw1 : (([0, 32, 0, 9] : List Int), (0 : Int)) = putR 1 (ofOne 32 (plainTy 9)) := by kernel_rfl
theorem aw2 : (⟨⟨33, ⟨#[]⟩, ⟨#[]⟩, [], [plainTy 1, plainTy 13]⟩, 6, 0⟩ : Res Ty) = tyR 20 [0, 33, 0, 1, 0, 13, 7] := by kernel_rfl
theorem aw3 : ((⟨#[108, 105, 115, 116, 60, 105, 110, 116, 62]⟩, 0) : ByteArray × Int) = textT 1 (ofOne 32 (plainTy 9)) := by kernel_rfl
theorem aw4 : (([] : List Int), (1 : Int)) = putR 0 (plainTy 32) := by kernel_rfl
theorem aw5 : (⟨tyNil, 0, 11⟩ : Res Ty) = tyR 20 [0, 10] := by kernel_rfl

theorem aw_list {w W : World} (hB : Below (w.heap.size + 1) (w.alloc (.cells #[.int .u16 9, .string ⟨#[]⟩, .string ⟨#[]⟩, .slice none 0 0, .slice none 0 0] 26)) W) : TyAt 1 (fun _ => True) W (ofOne 32 (plainTy 9)) none 0 0 (some ⟨w.heap.size, 0, none⟩) 1 1 := by
  refine tyAt_ofOne (by decide) (by decide) ?_ trivial (tyAt_plain 0 _ _ 9 (by decide) (by decide))
  rw [hB.block _ (by omega)]
  exact heap_alloc_new w _

theorem aw_put {w W : World} (hB : Below (w.heap.size + 1) (w.alloc (.cells #[.int .u16 9, .string ⟨#[]⟩, .string ⟨#[]⟩, .slice none 0 0, .slice none 0 0] 26)) W) (hT : Tab W) :
    Calls Tryd.prog 12 #[.agg #[.int .u16 32, .string ⟨#[]⟩, .string ⟨#[]⟩, .slice none 0 0, .slice (some ⟨w.heap.size, 0, none⟩) 1 1]] W fun e w' => ∃ a cp, e = .returned (.tuple #[.slice a 4 cp, .int .i64 0]) ∧ Hid (IsB w' a 4 cp [0, 32, 0, 9]) ∧ Below W.heap.size W w' := by
  refine (Put_any (aw_list hB) hT (by decide +kernel) aw1).mono ?_
  rintro e w' ⟨v, rfl, ha, hBl⟩
  obtain ⟨a, cp, rfl, h2⟩ := isB_own ha.out (by intro j; rcases j with _ | _ | _ | _ | j <;> simp)
  exact ⟨a, cp, rfl, h2, hBl⟩

theorem aw_text {w W : World} (hB : Below (w.heap.size + 1) (w.alloc (.cells #[.int .u16 9, .string ⟨#[]⟩, .string ⟨#[]⟩, .slice none 0 0, .slice none 0 0] 26)) W) (hT : Tab W) :
    Calls Tryd.prog 14 #[.agg #[.int .u16 32, .string ⟨#[]⟩, .string ⟨#[]⟩, .slice none 0 0, .slice (some ⟨w.heap.size, 0, none⟩) 1 1]] W fun e w' => e = .returned (.tuple #[.string ⟨#[108, 105, 115, 116, 60, 105, 110, 116, 62]⟩, .int .i64 0]) ∧ Below W.heap.size W w' :=
  Text_any (aw_list hB) hT (by decide +kernel) aw3

theorem aw_get {w W : World} {H : Nat} (hH : w.heap.size = H) (hW : W = w.alloc (.cells #[.int .u8 0, .int .u8 33, .int .u8 0, .int .u8 1, .int .u8 0, .int .u8 13, .int .u8 7] 5)) (hT : Tab w) :
    Calls Tryd.prog 16 #[.slice (some ⟨H, 0, none⟩) 7 7] W fun e w' => ∃ r cr na nl nc ka kc, kc ≤ 9223372036854775807 ∧ 2 ≤ kc ∧ 1 ≤ cr ∧ cr ≤ 9223372036854775807 ∧ e = .returned (.tuple #[.agg #[.int .u16 33, .string ⟨#[]⟩, .string ⟨#[]⟩, .slice na nl nc, .slice ka 2 kc], .slice r 1 cr, .int .i64 0]) ∧ Below w.heap.size w w' := by
  subst hH hW
  refine (Get_any (X := ⟨⟨33, ⟨#[]⟩, ⟨#[]⟩, [], [plainTy 1, plainTy 13]⟩, 6, 0⟩) (isB_block (X := [0, 33, 0, 1, 0, 13, 7]) (heap_alloc_new w _) (by intro j; rcases j with _ | _ | _ | _ | _ | _ | _ | j <;> simp) (by unfold maxLen; decide)) (hT.old (below_one _ _)) (by decide) aw2).mono ?_
  rintro e w' ⟨r, lr, cr, na, nl, nc, ka, kl, kc, rfl, HTY, HB, hBl⟩
  have h1 := HTY.out.kl_eq
  have h6 := HTY.out.kl_le
  unfold maxLen at h6
  obtain ⟨hd, off, rfl, hR⟩ := HB.out.row rfl
  have h3 : lr = 1 := hR.len_eq.symm
  have h4 : (2 : Nat) = kl := h1
  have h7 := hR.le
  have h8 := hR.cap_le
  unfold maxLen at h8
  subst h3 h4
  exact ⟨_, cr, na, nl, nc, ka, kc, by omega, by omega, by omega, by omega, rfl, (below_one w _).trans (hBl.mono (by simp))⟩

theorem aw_get2 {w W : World} {H : Nat} (hH : w.heap.size = H) (hW : W = w.alloc (.cells #[.int .u8 0, .int .u8 10] 5)) (hT : Tab w) :
    Calls Tryd.prog 16 #[.slice (some ⟨H, 0, none⟩) 2 2] W fun e w' => ∃ r na nl nc ka kl kc, e = .returned (.tuple #[.agg #[.int .u16 0, .string ⟨#[]⟩, .string ⟨#[]⟩, .slice na nl nc, .slice ka kl kc], r, .int .i64 11]) ∧ Below w.heap.size w w' := by
  subst hH hW
  refine (Get_any (X := ⟨tyNil, 0, 11⟩) (isB_block (X := [0, 10]) (heap_alloc_new w _) (by intro j; rcases j with _ | _ | j <;> simp) (by unfold maxLen; decide)) (hT.old (below_one _ _)) (by decide) aw5).mono ?_
  rintro e w' ⟨r, lr, cr, na, nl, nc, ka, kl, kc, rfl, HTY, HB, hBl⟩
  exact ⟨_, na, nl, nc, ka, kl, kc, rfl, (below_one w _).trans (hBl.mono (by simp))⟩

theorem aw_put2 {W : World} (hT : Tab W) :
    Calls Tryd.prog 12 #[.agg #[.int .u16 32, .string ⟨#[]⟩, .string ⟨#[]⟩, .slice none 0 0, .slice none 0 0]] W fun e w' => ∃ v, e = .returned (.tuple #[v, .int .i64 1]) ∧ Below W.heap.size W w' := by
  refine (Put_any (tyAt_plain 0 (fun _ => True) W 32 (by decide) (by decide)) hT (by decide +kernel) aw4).mono ?_
  rintro e w' ⟨v, rfl, ha, hBl⟩
  exact ⟨v, rfl, hBl⟩

set_option maxHeartbeats 2000000 in
theorem awake_any (w : World) (hT : Tab w) : Calls Tryd.prog 10 #[] w fun e w' => e = .returned (.bool true) ∧ Below w.heap.size w w' := by
  have HT : Hid (Tab w) := hT
  clear hT
  go_enter Tryd.func10, Tryd.ntmps10
  go_wp2_with fail
  refine (aw_put ((below_one _ _).mono (by simp)) (HT.out.old ((below_one w _).alloc (by simp) _))).mono ?_
  rintro e w1 ⟨a1, cp1, rfl, HI1, hB1⟩
  have hs1 := hB1.size
  simp at hs1
  have hw1 : Below w.heap.size w w1 := ((below_one w _).alloc (by simp) _).trans (hB1.mono (by simp; omega))
  have hk1 : Below (w.heap.size + 1) (w.alloc (.cells #[.int .u16 9, .string ⟨#[]⟩, .string ⟨#[]⟩, .slice none 0 0, .slice none 0 0] 26)) w1 := ((below_one _ _).mono (by simp)).trans (hB1.mono (by simp))
  have hb1 : ∀ j u, #[Value.int .u16 32, .string ⟨#[]⟩, .string ⟨#[]⟩, .slice none 0 0, .slice (some ⟨w.heap.size, 0, none⟩) 1 1][j]? = some u → w1.cell? ⟨w.heap.size + 1, j, none⟩ = some u := fun j u hu => by
    rw [hB1.cell (by simp)]
    have := cell_box (w.alloc (.cells #[.int .u16 9, .string ⟨#[]⟩, .string ⟨#[]⟩, .slice none 0 0, .slice none 0 0] 26)) #[Value.int .u16 32, .string ⟨#[]⟩, .string ⟨#[]⟩, .slice none 0 0, .slice (some ⟨w.heap.size, 0, none⟩) 1 1] 26 j u hu
    rw [World.size_alloc] at this
    exact this
  have HB1 : Hid _ := hb1
  clear hb1 hB1
  go_wp2_with fail
  refine (aw_get rfl rfl (HT.out.old hw1)).mono ?_
  rintro e w2 ⟨r2, cr2, na2, nl2, nc2, ka2, kc2, hk2a, hk2b, hc2a, hc2b, rfl, hB2⟩
  have hs2 := hB2.size
  have hw2 := hw1.trans (hB2.mono hw1.size)
  have hk2 := hk1.trans (hB2.mono (by omega))
  have hc : ∀ j, w2.cell? ⟨w.heap.size + 1, j, none⟩ = w1.cell? ⟨w.heap.size + 1, j, none⟩ := fun j => hB2.cell (p := ⟨w.heap.size + 1, j, none⟩) (by show w.heap.size + 1 < _; omega)
  have l0 := (hc 0).trans (HB1.out 0 _ rfl)
  have l1 := (hc 1).trans (HB1.out 1 _ rfl)
  have l2 := (hc 2).trans (HB1.out 2 _ rfl)
  have l3 := (hc 3).trans (HB1.out 3 _ rfl)
  have l4 := (hc 4).trans (HB1.out 4 _ rfl)
  have hlt2 : w.heap.size + 1 < w2.heap.size := by omega
  clear hc
  go_wp2_with fail
  refine (aw_text (hk2.trans ((below_one w2 _).mono (by omega))) ((HT.out.old hw2).old (below_one _ _))).mono ?_
  rintro e w3 ⟨rfl, hB3⟩
  have hs3 := hB3.size
  simp at hs3
  have o4 : w3.cell? ⟨w2.heap.size, 4, none⟩ = some (.slice ka2 2 kc2) := (hB3.cell (by simp)).trans (cell_box _ _ _ _ _ rfl)
  have hw3 : Below w2.heap.size w2 w3 := (below_one w2 _).trans (hB3.mono (by simp))
  clear l0 l1 l2 l3 l4
  go_wp2_with fail
  refine (aw_put2 (HT.out.old (hw2.trans (hw3.mono hw2.size)))).mono ?_
  rintro e w4 ⟨v4, rfl, hB4⟩
  have hs4 := hB4.size
  have hw04 := (hw2.trans (hw3.mono hw2.size)).trans (hB4.mono (by omega))
  go_wp2_with fail
  refine (aw_get2 rfl rfl (HT.out.old hw04)).mono ?_
  rintro e w5 ⟨r5, na5, nl5, nc5, ka5, kl5, kc5, rfl, hB5⟩
  have hs5 := hB5.size
  have hw05 := hw04.trans (hB5.mono hw04.size)
  have hw35 : Below w3.heap.size w3 w5 := hB4.trans (hB5.mono hB4.size)
  have o45 : w5.cell? ⟨w2.heap.size, 4, none⟩ = some (.slice ka2 2 kc2) := (hw35.cell (by show w2.heap.size < _; omega)).trans o4
  have hw15 : Below w1.heap.size w1 w5 := hB2.trans ((hw3.mono hB2.size).trans (hw35.mono (by omega)))
  have hcv := (HI1.out.old (hw15.trans (below_one w5 (.cells #[.int .u16 0, .string ⟨#[]⟩, .string ⟨#[]⟩, .slice na5 nl5 nc5, .slice ka5 kl5 kc5] 26) |>.mono hw15.size))).conv
  have hst : strOfNums [0, 32, 0, 9] = ⟨#[0, 32, 0, 9]⟩ := rfl
  rw [hst] at hcv
  have hlt5 : w2.heap.size < w5.heap.size := by omega
  have hfin := hw05.trans ((below_one w5 (.cells #[.int .u16 0, .string ⟨#[]⟩, .string ⟨#[]⟩, .slice na5 nl5 nc5, .slice ka5 kl5 kc5] 26)).mono hw05.size)
  clear hst HI1 o4 hw1 hk1 hw2 hk2 hw3 hw04 hw35 hw15 hB2 hB3 hB4 hB5
  go_wp2_with fail
  go_ret
  exact ⟨rfl, hfin⟩
end Go.Proofs.YtakaonfeegfmpaaDoor
