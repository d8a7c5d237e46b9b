/-
  The document's own columns.
-/
import Derived.Test.YtnapeecmlkkolaaDoorDt10
import Derived.Test.YtnapeecmlkkolaaDoorVd10
import Derived.Test.YtnapeecmlkkolaaDoorAf
import Derived.Deep.DeepCutAuto
import Derived.Deep.AppendLies
namespace Go.Proofs.YtnapeecmlkkolaaDoor
open Go.RowKit
set_option maxRecDepth 100000
set_option linter.unusedVariables false
set_option linter.unusedSimpArgs false

/-- Six cells written anew, one behind the other. -/
theorem fill6 {w : World} {p : Nat} {a0 a1 a2 a3 a4 a5 : Value} {t : TypeId} (h : w.heap[p]? = some (.cells #[a0, a1, a2, a3, a4, a5] t (0, 0))) (c0 c1 c2 c3 c4 c5 : Value) :
    ∃ W, ((((((w.setCell ⟨p, 0, none⟩ c0).setCell ⟨p, 1, none⟩ c1).setCell ⟨p, 2, none⟩ c2).setCell ⟨p, 3, none⟩ c3).setCell ⟨p, 4, none⟩ c4).setCell ⟨p, 5, none⟩ c5) = W ∧ W.heap[p]? = some (.cells #[c0, c1, c2, c3, c4, c5] t (0, 0)) ∧ Kept (fun k => k = p) w W := by
  have h1 := blk_set h 0 c0
  have h2 := blk_set h1 1 c1
  have h3 := blk_set h2 2 c2
  have h4 := blk_set h3 3 c3
  have h5 := blk_set h4 4 c4
  have h6 := blk_set h5 5 c5
  exact ⟨_, rfl, h6, (((((one_kept w p 0 _).trans (one_kept _ p 1 _) (fun i _ e => e)).trans (one_kept _ p 2 _) (fun i _ e => e)).trans (one_kept _ p 3 _) (fun i _ e => e)).trans (one_kept _ p 4 _) (fun i _ e => e)).trans (one_kept _ p 5 _) (fun i _ e => e)⟩

theorem fill8 {w : World} {p : Nat} {a0 a1 a2 a3 a4 a5 a6 a7 : Value} {t : TypeId} (h : w.heap[p]? = some (.cells #[a0, a1, a2, a3, a4, a5, a6, a7] t (0, 0))) (c0 c1 c2 c3 c4 c5 c6 c7 : Value) :
    ∃ W, ((((((((w.setCell ⟨p, 0, none⟩ c0).setCell ⟨p, 1, none⟩ c1).setCell ⟨p, 2, none⟩ c2).setCell ⟨p, 3, none⟩ c3).setCell ⟨p, 4, none⟩ c4).setCell ⟨p, 5, none⟩ c5).setCell ⟨p, 6, none⟩ c6).setCell ⟨p, 7, none⟩ c7) = W ∧ W.heap[p]? = some (.cells #[c0, c1, c2, c3, c4, c5, c6, c7] t (0, 0)) ∧ Kept (fun k => k = p) w W := by
  obtain ⟨w1, e1⟩ : ∃ w1, w1 = w.setCell ⟨p, 0, none⟩ c0 := ⟨_, rfl⟩
  have h1 : w1.heap[p]? = some (.cells #[c0, a1, a2, a3, a4, a5, a6, a7] t (0, 0)) := by rw [e1]; exact blk_set h 0 c0
  have k1 : Kept (fun k => k = p) w w1 := by rw [e1]; exact one_kept w p 0 c0
  obtain ⟨w2, e2⟩ : ∃ w2, w2 = w1.setCell ⟨p, 1, none⟩ c1 := ⟨_, rfl⟩
  have h2 : w2.heap[p]? = some (.cells #[c0, c1, a2, a3, a4, a5, a6, a7] t (0, 0)) := by rw [e2]; exact blk_set h1 1 c1
  have k2 : Kept (fun k => k = p) w w2 := k1.trans (by rw [e2]; exact one_kept _ p 1 c1) (fun i _ e => e)
  obtain ⟨w3, e3⟩ : ∃ w3, w3 = w2.setCell ⟨p, 2, none⟩ c2 := ⟨_, rfl⟩
  have h3 : w3.heap[p]? = some (.cells #[c0, c1, c2, a3, a4, a5, a6, a7] t (0, 0)) := by rw [e3]; exact blk_set h2 2 c2
  have k3 : Kept (fun k => k = p) w w3 := k2.trans (by rw [e3]; exact one_kept _ p 2 c2) (fun i _ e => e)
  obtain ⟨w4, e4⟩ : ∃ w4, w4 = w3.setCell ⟨p, 3, none⟩ c3 := ⟨_, rfl⟩
  have h4 : w4.heap[p]? = some (.cells #[c0, c1, c2, c3, a4, a5, a6, a7] t (0, 0)) := by rw [e4]; exact blk_set h3 3 c3
  have k4 : Kept (fun k => k = p) w w4 := k3.trans (by rw [e4]; exact one_kept _ p 3 c3) (fun i _ e => e)
  obtain ⟨w5, e5⟩ : ∃ w5, w5 = w4.setCell ⟨p, 4, none⟩ c4 := ⟨_, rfl⟩
  have h5 : w5.heap[p]? = some (.cells #[c0, c1, c2, c3, c4, a5, a6, a7] t (0, 0)) := by rw [e5]; exact blk_set h4 4 c4
  have k5 : Kept (fun k => k = p) w w5 := k4.trans (by rw [e5]; exact one_kept _ p 4 c4) (fun i _ e => e)
  obtain ⟨w6, e6⟩ : ∃ w6, w6 = w5.setCell ⟨p, 5, none⟩ c5 := ⟨_, rfl⟩
  have h6 : w6.heap[p]? = some (.cells #[c0, c1, c2, c3, c4, c5, a6, a7] t (0, 0)) := by rw [e6]; exact blk_set h5 5 c5
  have k6 : Kept (fun k => k = p) w w6 := k5.trans (by rw [e6]; exact one_kept _ p 5 c5) (fun i _ e => e)
  obtain ⟨w7, e7⟩ : ∃ w7, w7 = w6.setCell ⟨p, 6, none⟩ c6 := ⟨_, rfl⟩
  have h7 : w7.heap[p]? = some (.cells #[c0, c1, c2, c3, c4, c5, c6, a7] t (0, 0)) := by rw [e7]; exact blk_set h6 6 c6
  have k7 : Kept (fun k => k = p) w w7 := k6.trans (by rw [e7]; exact one_kept _ p 6 c6) (fun i _ e => e)
  obtain ⟨w8, e8⟩ : ∃ w8, w8 = w7.setCell ⟨p, 7, none⟩ c7 := ⟨_, rfl⟩
  have h8 : w8.heap[p]? = some (.cells #[c0, c1, c2, c3, c4, c5, c6, c7] t (0, 0)) := by rw [e8]; exact blk_set h7 7 c7
  have k8 : Kept (fun k => k = p) w w8 := k7.trans (by rw [e8]; exact one_kept _ p 7 c7) (fun i _ e => e)
  subst e1 e2 e3 e4 e5 e6 e7
  exact ⟨w8, e8.symm, h8, k8⟩

/-- The five cells of a type, written behind the first three. -/
theorem fill5 {w : World} {p : Nat} {a0 a1 a2 a3 a4 a5 a6 a7 : Value} {t : TypeId} (h : w.heap[p]? = some (.cells #[a0, a1, a2, a3, a4, a5, a6, a7] t (0, 0))) (c3 c4 c5 c6 c7 : Value) :
    ∃ W, (((((w.setCell ⟨p, 3, none⟩ c3).setCell ⟨p, 4, none⟩ c4).setCell ⟨p, 5, none⟩ c5).setCell ⟨p, 6, none⟩ c6).setCell ⟨p, 7, none⟩ c7) = W ∧ W.heap[p]? = some (.cells #[a0, a1, a2, c3, c4, c5, c6, c7] t (0, 0)) ∧ Kept (fun k => k = p) w W := by
  have h4 := blk_set h 3 c3
  have h5 := blk_set h4 4 c4
  have h6 := blk_set h5 5 c5
  have h7 := blk_set h6 6 c6
  have h8 := blk_set h7 7 c7
  exact ⟨_, rfl, h8, ((((one_kept w p 3 _).trans (one_kept _ p 4 _) (fun i _ e => e)).trans (one_kept _ p 5 _) (fun i _ e => e)).trans (one_kept _ p 6 _) (fun i _ e => e)).trans (one_kept _ p 7 _) (fun i _ e => e)⟩

/-- Columns, with places of keys or without. -/
def colsP (b : Bool) : Ps (List Int × Tb) := bindR headR fun h => bindR (optR b [] (keysR h.2)) fun ks => bindR (tableR h.1 h.2) fun t => pureR (ks, t)

/-- What the document's Columns answers. -/
def ColsE (w : World) (X : Res (List Int × Tb)) (d len : Nat) (e : Ending) (w' : World) : Prop :=
  ∃ (n0 : Int) (ca : Option Addr) (cl cc : Nat) (mo : Bool) (sk : Int) (sb : ByteArray) (ka : Option Addr) (kl kc : Nat), e = .returned (.tuple #[.agg #[.int .i64 n0, .slice ca cl cc, .bool mo, .int .i64 sk, .string sb, .slice none 0 0], .slice ka kl kc, .int .i64 (place d X), .int .i64 X.err]) ∧ Hid (Below w.heap.size w w') ∧ Hid (X.err = 0 → d + X.done ≤ len) ∧
    Hid (X.err = 0 → n0 = X.val.2.1 ∧ cl = X.val.2.2.1.length ∧ mo = X.val.2.2.2.1 ∧ sk = X.val.2.2.2.2.1.1 ∧ sb = X.val.2.2.2.2.1.2 ∧ kl = X.val.1.length ∧
      OwnI 83 8 (VCol 20) w' (fun z => w.heap.size ≤ z) (.slice ca cl cc) X.val.2.2.1 ∧ OwnI 51 1 VKey w' (fun z => w.heap.size ≤ z) (.slice ka kl kc) X.val.1)

/-- What stands behind the state. -/
def StR (w : World) (r g : Nat) (X : Res (List Int × Tb)) (zs : List Int) (d len : Nat) (f : Int) (n : Nat) (pv : Value) (wc : World) : Prop :=
  ∃ (pos : Nat) (s : Vl), pv = .int .i64 pos ∧ Hid (pos ≤ len) ∧ Hid (Reads X zs d (bindR (optR (!bitX f 4) [] (colsR n (bitX f 1))) fun l => pureR (([] : List Int), (((n : Int), l, bitX f 2, s, []) : Tb))) pos id) ∧
    Hid (wc.heap[r]? = some (.cells #[.int .i64 0, .slice none 0 0, .bool false, .int .i64 0, .string ⟨#[]⟩, .slice none 0 0] 38 (0, 0))) ∧ Hid (wc.heap[g]? = some (.cells #[.int .i64 n, .slice none 0 0, .bool (bitX f 2), .int .i64 s.1, .string s.2, .slice none 0 0] 38 (0, 0))) ∧ Hid (Below w.heap.size w wc)

/-- What stands ahead of each round over the columns. -/
def LpR (w : World) (r g q : Nat) (X : Res (List Int × Tb)) (zs : List Int) (d len : Nat) (gl m : Bool) (o : ByteArray × ByteArray) (s : Vl) (n : Nat) (pv t : Value) (wc : World) : Prop :=
  ∃ (i pos : Nat) (xa : Option Addr) (xc : Nat) (acc : List Col), i ≤ n ∧ t = .int .i64 i ∧ pv = .int .i64 pos ∧ Hid (pos ≤ len) ∧ Hid (acc.length = i) ∧ Hid (Reads X zs d (bindR (loopR (colR gl o) (n - i)) fun l => pureR (([] : List Int), (((n : Int), acc ++ l, m, s, []) : Tb))) pos id) ∧
    Hid (wc.heap[r]? = some (.cells #[.int .i64 0, .slice none 0 0, .bool false, .int .i64 0, .string ⟨#[]⟩, .slice none 0 0] 38 (0, 0))) ∧ Hid (wc.heap[g]? = some (.cells #[.int .i64 n, .slice xa i xc, .bool m, .int .i64 s.1, .string s.2, .slice none 0 0] 38 (0, 0))) ∧ Hid (wc.heap[q]? = some (.cells #[.string o.1, .string o.2, .string ⟨#[]⟩, .int .u16 0, .string ⟨#[]⟩, .string ⟨#[]⟩, .slice none 0 0, .slice none 0 0] 83 (0, 0))) ∧
    Hid (OwnI 83 8 (VCol 20) wc (fun z => q < z) (.slice xa i xc) acc) ∧ Hid (Below w.heap.size w wc)

theorem int4R_done {Z : List Int} {Y : Res Int} (hY : Y = int4R Z) (h : Y.err = 0) : Y.done ≤ Z.length ∧ -2147483648 ≤ Y.val ∧ Y.val ≤ 2147483647 := by
  rw [hY, int4R_eq] at h ⊢
  by_cases hl : Z.length < 4
  · rw [if_pos hl] at h; exact absurd h (by decide)
  · rw [if_neg hl]; exact ⟨by show 4 ≤ _; omega, int4_bounds Z⟩

theorem manyR_done {Z : List Int} {Y : Res Int} (hY : Y = manyR Z) (h : Y.err = 0) : Y.done ≤ Z.length ∧ 0 ≤ Y.val ∧ Y.val ≤ 4096 := by
  have hR : Reads Y Z 0 (bindR int4R fun n => if n < 0 then failR 0 11 else if 4096 < n then failR 0 12 else pureR n) 0 id := reads_start manyR (by simpa using hY)
  by_cases he : (int4R (Z.drop 0)).err = 0
  · have h1 := reads_ok hR he
    obtain ⟨h2, _⟩ := int4R_done rfl he
    rw [List.drop_zero] at h1 h2
    by_cases h0 : (int4R Z).val < 0
    · rw [if_pos h0] at h1; exact absurd (h.symm.trans (reads_fail h1)) (by decide)
    · rw [if_neg h0] at h1
      by_cases h3 : 4096 < (int4R Z).val
      · rw [if_pos h3] at h1; exact absurd (h.symm.trans (reads_fail h1)) (by decide)
      · rw [if_neg h3] at h1
        obtain ⟨_, h4, h5⟩ := reads_pure h1
        rw [show Y.val = (int4R Z).val from h5]
        exact ⟨by omega, by omega, by omega⟩
  · exact absurd (h.symm.trans (reads_err hR he)).symm he

theorem valueR_done {Z : List Int} {Y : Res Vl} (hY : Y = valueR Z) (h : Y.err = 0) : Y.done ≤ Z.length := by
  rw [hY] at h ⊢
  unfold valueR valueA at h ⊢
  by_cases h1 : Z.length < 4
  · rw [if_pos h1] at h; exact absurd h (by decide)
  · rw [if_neg h1] at h ⊢
    by_cases h2 : int4 Z < -2
    · rw [if_pos h2] at h; exact absurd h (by decide)
    · rw [if_neg h2] at h ⊢
      by_cases h3 : int4 Z = -2
      · rw [if_pos h3]; show 4 ≤ _; omega
      · rw [if_neg h3] at h ⊢
        by_cases h4 : int4 Z = -1
        · rw [if_pos h4]; show 4 ≤ _; omega
        · rw [if_neg h4] at h ⊢
          by_cases h5 : ((Z.length - 4 : Nat) : Int) < int4 Z
          · rw [if_pos h5] at h; exact absurd h (by decide)
          · rw [if_neg h5]; show 4 + (int4 Z).toNat ≤ _; omega

theorem owner_sz {Z : List Int} {Y : Res (ByteArray × ByteArray)} (hY : Y = ownerR Z) (h : Y.err = 0) {s t : ByteArray} (hv : Y.val = (s, t)) : s.size ≤ Z.length ∧ t.size ≤ Z.length := by
  have hR : Reads Y Z 0 (bindR textR fun s => bindR textR fun t => pureR (s, t)) 0 id := reads_start ownerR (by simpa using hY)
  by_cases he : (textR (Z.drop 0)).err = 0
  · have h1 := reads_ok hR he
    by_cases hf : (textR (Z.drop (0 + (textR (Z.drop 0)).done))).err = 0
    · have h2 := reads_ok h1 hf
      obtain ⟨_, _, h5⟩ := reads_pure h2
      rw [hv] at h5
      have e1 : s = (textR (Z.drop 0)).val := congrArg Prod.fst h5
      have e2 : t = (textR (Z.drop (0 + (textR (Z.drop 0)).done))).val := congrArg Prod.snd h5
      have k1 := text_size (Z.drop 0)
      have k2 := text_size (Z.drop (0 + (textR (Z.drop 0)).done))
      rw [← e1, List.length_drop] at k1
      rw [← e2, List.length_drop] at k2
      exact ⟨by omega, by omega⟩
    · exact absurd (h.symm.trans (reads_err h1 hf)).symm hf
  · exact absurd (h.symm.trans (reads_err hR he)).symm he

theorem bit_facts {f : Int} (h0 : 0 ≤ f) (h1 : f ≤ 7) : bitX f 2 = decide (f / 2 % 2 = 1) ∧ bitX f 4 = decide (4 ≤ f) ∧ bitX f 1 = decide (f % 2 = 1) := by
  rcases (show f = 0 ∨ f = 1 ∨ f = 2 ∨ f = 3 ∨ f = 4 ∨ f = 5 ∨ f = 6 ∨ f = 7 by omega) with rfl | rfl | rfl | rfl | rfl | rfl | rfl | rfl <;> decide

set_option maxHeartbeats 8000000 in
theorem cols_no {w : World} {a : Option Addr} {len cap : Nat} {zs : List Int} (h : IsB w a len cap zs) (hsm : len ≤ 8000000000) (d : Nat) (hd : d ≤ len) (p : Int) (hp : p = d) {X : Res (List Int × Tb)} (hX : X = colsP false (zs.drop d)) :
    Calls Tryd.prog 25 #[.slice a len cap, .int .i64 p, .bool false] w fun e w' => ColsE w X d len e w' := by
  subst hp
  obtain ⟨r, hr⟩ : ∃ r, r = w.heap.size := ⟨_, rfl⟩
  have HRE : Hid (w.heap.size = r) := hr.symm
  obtain ⟨g, hg⟩ : ∃ g, g = r + 1 := ⟨_, rfl⟩
  have HGE : Hid (r + 1 = g) := hg.symm
  obtain ⟨w0, hw0⟩ : ∃ w0, w0 = (w.alloc (.cells #[.int .i64 0, .slice none 0 0, .bool false, .int .i64 0, .string ⟨#[]⟩, .slice none 0 0] 38)).alloc (.cells #[.int .i64 0, .slice none 0 0, .bool false, .int .i64 0, .string ⟨#[]⟩, .slice none 0 0] 38) := ⟨_, rfl⟩
  have HW0 : Hid ((w.alloc (.cells #[.int .i64 0, .slice none 0 0, .bool false, .int .i64 0, .string ⟨#[]⟩, .slice none 0 0] 38)).alloc (.cells #[.int .i64 0, .slice none 0 0, .bool false, .int .i64 0, .string ⟨#[]⟩, .slice none 0 0] 38) = w0) := hw0.symm
  have HB0 : Hid (Below w.heap.size w w0) := by rw [hw0]; exact (below_one _ _).alloc (by simp) _
  have HZ0 : Hid (w0.heap[r]? = some (.cells #[.int .i64 0, .slice none 0 0, .bool false, .int .i64 0, .string ⟨#[]⟩, .slice none 0 0] 38 (0, 0))) := by
    show _ = _
    rw [hw0, hr]
    exact ((below_one (w.alloc (.cells #[.int .i64 0, .slice none 0 0, .bool false, .int .i64 0, .string ⟨#[]⟩, .slice none 0 0] 38)) _).block w.heap.size (by simp)).trans (heap_alloc_new w _)
  have HG0 : Hid (w0.heap[g]? = some (.cells #[.int .i64 0, .slice none 0 0, .bool false, .int .i64 0, .string ⟨#[]⟩, .slice none 0 0] 38 (0, 0))) := by
    show _ = _
    rw [hw0, hg, hr]
    have hsz : (w.alloc (.cells #[.int .i64 0, .slice none 0 0, .bool false, .int .i64 0, .string ⟨#[]⟩, .slice none 0 0] 38)).heap.size = w.heap.size + 1 := by simp
    rw [← hsz]
    exact heap_alloc_new _ _
  have HI : Hid (IsB w a len cap zs) := h
  have H0 : Hid (IsB w0 a len cap zs) := h.old HB0.out
  have hzl : zs.length = len := h.1
  have HZL : Hid (zs.length = len) := hzl
  obtain ⟨Y1, hY1⟩ : ∃ Y1, Y1 = int4R (zs.drop d) := ⟨_, rfl⟩
  have HY1 : Hid (Y1 = int4R (zs.drop d)) := hY1
  have hR1 := reads_assoc (f := fun f => if f < 0 ∨ 7 < f then failR (f, 0) 21 else bindR manyR fun n => pureR (f, n)) (reads_start (colsP false) hX)
  have HR1 : Hid (Reads X zs d _ d id) := hR1
  clear hr hg hw0 h hX hzl hR1 hY1
  go_enter Tryd.func25, Tryd.ntmps25
  go_upto_region 2 with fail
  (try rw [HRE.out])
  (try rw [HGE.out])
  rw [HW0.out]
  clear HW0
  go_wp2_with fail
  refine (rnum_at H0.out d hd _ rfl HY1.out).mono ?_
  rintro e w1 ⟨rfl, hb1⟩
  have HB1 : Hid (Below w.heap.size w w1) := HB0.out.trans (hb1.mono HB0.out.size)
  have HZ1 : Hid (w1.heap[r]? = some (.cells #[.int .i64 0, .slice none 0 0, .bool false, .int .i64 0, .string ⟨#[]⟩, .slice none 0 0] 38 (0, 0))) := (hb1.block r (block_lt HZ0.out)).trans HZ0.out
  have HG1 : Hid (w1.heap[g]? = some (.cells #[.int .i64 0, .slice none 0 0, .bool false, .int .i64 0, .string ⟨#[]⟩, .slice none 0 0] 38 (0, 0))) := (hb1.block g (block_lt HG0.out)).trans HG0.out
  have H1 : Hid (IsB w1 a len cap zs) := HI.out.old HB1.out
  clear hb1 H0 HB0 HZ0 HG0
  by_cases e1 : Y1.err = 0
  case neg =>
    have hx : X.err = Y1.err := (reads_err HR1.out (by rw [← HY1.out]; exact e1)).trans (by rw [← HY1.out])
    obtain ⟨ce, hce⟩ : ∃ ce, ce = Y1.err := ⟨_, rfl⟩
    have hce0 : (ce != 0) = true := by rw [hce]; simpa using e1
    have HCE : Hid (Y1.err = ce) := hce.symm
    have HXE : Hid (X.err = ce) := hx.trans hce.symm
    have HXN : Hid (X.err ≠ 0) := by show X.err ≠ 0; rw [hx]; exact e1
    have HPX : Hid (place d X = 0) := place_err HXN.out
    have HPY : Hid (place d Y1 = 0) := place_err e1
    clear hx hce
    rw [HCE.out, HPY.out]
    clear e1
    obtain ⟨wF, hwF, hF6, hKF⟩ := fill6 HZ1.out (.int .i64 0) (.slice none 0 0) (.bool false) (.int .i64 0) (.string ⟨#[]⟩) (.slice none 0 0)
    have HWF : Hid _ := hwF
    have HF6 : Hid _ := hF6
    have HBF : Hid (Below w.heap.size w wF) := HB1.out.trans (hKF.below HB1.out.size (fun z _ e => by have := HRE.out; omega))
    obtain ⟨_, f0, f1, f2, f3, f4, f5⟩ := blk6 HZ1.out
    obtain ⟨⟨g0, g1, g2, g3, g4, g5⟩, _⟩ := blk6 HG1.out
    have hlr := block_lt HZ1.out
    have hlg := block_lt HG1.out
    clear hwF hF6 hKF
    go_wp2_with fail
    rw [HWF.out]
    obtain ⟨⟨p0, p1, p2, p3, p4, p5⟩, _⟩ := blk6 HF6.out
    exact bodyPost_ret (v := .tuple #[.agg #[.int .i64 0, .slice none 0 0, .bool false, .int .i64 0, .string ⟨#[]⟩, .slice none 0 0], .slice none 0 0, .int .i64 0, .int .i64 ce]) (by simp [results, Tryd.results25, go_sem, p0, p1, p2, p3, p4, p5]) rfl
      ⟨_, _, _, _, _, _, _, _, _, _, by rw [HXE.out, HPX.out], HBF, fun e => absurd e HXN.out, fun e => absurd e HXN.out⟩
  case pos =>
    obtain ⟨hd1, hv1, hv2⟩ := int4R_done HY1.out e1
    rw [List.length_drop, HZL.out] at hd1
    have hR2 := reads_ok HR1.out (by rw [← HY1.out]; exact e1)
    rw [← HY1.out] at hR2
    have HP1 : Hid (place d Y1 = ((d + Y1.done : Nat) : Int)) := place_ok e1
    have HE1 : Hid (Y1.err = 0) := e1
    rw [HE1.out, HP1.out]
    obtain ⟨f, hf⟩ : ∃ f, f = Y1.val := ⟨_, rfl⟩
    rw [← hf] at hR2 hv1 hv2 ⊢
    obtain ⟨pos, hpos⟩ : ∃ pos, pos = d + Y1.done := ⟨_, rfl⟩
    have hpl : pos ≤ len := by omega
    rw [← hpos] at hR2 ⊢
    clear hf hpos hd1 e1 HE1 HP1 HY1 HR1
    by_cases hfl : f < 0 ∨ 7 < f
    · rw [if_pos hfl] at hR2
      have HXE : Hid (X.err = 21) := reads_bfail hR2 (by decide)
      have HXN : Hid (X.err ≠ 0) := by show X.err ≠ 0; rw [HXE.out]; decide
      have HPX : Hid (place d X = 0) := place_err HXN.out
      clear hR2
      rcases hfl with hfl | hfl
      · have hfn : decide (f < 0) = true := by simpa using hfl
        obtain ⟨wF, hwF, hF6, hKF⟩ := fill6 HZ1.out (.int .i64 0) (.slice none 0 0) (.bool false) (.int .i64 0) (.string ⟨#[]⟩) (.slice none 0 0)
        have HWF : Hid _ := hwF
        have HF6 : Hid _ := hF6
        have HBF : Hid (Below w.heap.size w wF) := HB1.out.trans (hKF.below HB1.out.size (fun z _ e => by have := HRE.out; omega))
        obtain ⟨_, f0, f1, f2, f3, f4, f5⟩ := blk6 HZ1.out
        obtain ⟨⟨g0, g1, g2, g3, g4, g5⟩, _⟩ := blk6 HG1.out
        have hlr := block_lt HZ1.out
        have hlg := block_lt HG1.out
        clear hwF hF6 hKF
        go_wp2_with fail
        rw [HWF.out]
        obtain ⟨⟨p0, p1, p2, p3, p4, p5⟩, _⟩ := blk6 HF6.out
        exact bodyPost_ret (v := .tuple #[.agg #[.int .i64 0, .slice none 0 0, .bool false, .int .i64 0, .string ⟨#[]⟩, .slice none 0 0], .slice none 0 0, .int .i64 0, .int .i64 21]) (by simp [results, Tryd.results25, go_sem, p0, p1, p2, p3, p4, p5]) rfl
          ⟨_, _, _, _, _, _, _, _, _, _, by rw [HXE.out, HPX.out], HBF, fun e => absurd e HXN.out, fun e => absurd e HXN.out⟩
      · have hfn : decide (f < 0) = false := by simp; omega
        have hfp : decide (7 < f) = true := by simpa using hfl
        obtain ⟨wF, hwF, hF6, hKF⟩ := fill6 HZ1.out (.int .i64 0) (.slice none 0 0) (.bool false) (.int .i64 0) (.string ⟨#[]⟩) (.slice none 0 0)
        have HWF : Hid _ := hwF
        have HF6 : Hid _ := hF6
        have HBF : Hid (Below w.heap.size w wF) := HB1.out.trans (hKF.below HB1.out.size (fun z _ e => by have := HRE.out; omega))
        obtain ⟨_, f0, f1, f2, f3, f4, f5⟩ := blk6 HZ1.out
        obtain ⟨⟨g0, g1, g2, g3, g4, g5⟩, _⟩ := blk6 HG1.out
        have hlr := block_lt HZ1.out
        have hlg := block_lt HG1.out
        clear hwF hF6 hKF
        go_wp2_with fail
        rw [HWF.out]
        obtain ⟨⟨p0, p1, p2, p3, p4, p5⟩, _⟩ := blk6 HF6.out
        exact bodyPost_ret (v := .tuple #[.agg #[.int .i64 0, .slice none 0 0, .bool false, .int .i64 0, .string ⟨#[]⟩, .slice none 0 0], .slice none 0 0, .int .i64 0, .int .i64 21]) (by simp [results, Tryd.results25, go_sem, p0, p1, p2, p3, p4, p5]) rfl
          ⟨_, _, _, _, _, _, _, _, _, _, by rw [HXE.out, HPX.out], HBF, fun e => absurd e HXN.out, fun e => absurd e HXN.out⟩
    · rw [if_neg hfl] at hR2
      have hf0 : 0 ≤ f := by omega
      have hf7 : f ≤ 7 := by omega
      have hfn : decide (f < 0) = false := by simp; omega
      have hfp : decide (7 < f) = false := by simp; omega
      obtain ⟨Y2, hY2⟩ : ∃ Y2, Y2 = manyR (zs.drop pos) := ⟨_, rfl⟩
      have HY2 : Hid (Y2 = manyR (zs.drop pos)) := hY2
      have HR2 : Hid (Reads X zs d _ pos id) := reads_assoc hR2
      clear hR2 hY2 hfl hv1 hv2
      go_wp2_with fail
      refine (count_at H1.out pos hpl _ rfl HY2.out).mono ?_
      rintro e w2 ⟨rfl, hb2⟩
      have HB2 : Hid (Below w.heap.size w w2) := HB1.out.trans (hb2.mono HB1.out.size)
      have HZ2 : Hid (w2.heap[r]? = some (.cells #[.int .i64 0, .slice none 0 0, .bool false, .int .i64 0, .string ⟨#[]⟩, .slice none 0 0] 38 (0, 0))) := (hb2.block r (block_lt HZ1.out)).trans HZ1.out
      have HG2 : Hid (w2.heap[g]? = some (.cells #[.int .i64 0, .slice none 0 0, .bool false, .int .i64 0, .string ⟨#[]⟩, .slice none 0 0] 38 (0, 0))) := (hb2.block g (block_lt HG1.out)).trans HG1.out
      have H2 : Hid (IsB w2 a len cap zs) := HI.out.old HB2.out
      clear hb2 H1 HB1 HZ1 HG1
      by_cases e2 : Y2.err = 0
      case neg =>
        have hx : X.err = Y2.err := (reads_err HR2.out (by rw [← HY2.out]; exact e2)).trans (by rw [← HY2.out])
        obtain ⟨ce, hce⟩ : ∃ ce, ce = Y2.err := ⟨_, rfl⟩
        have hce0 : (ce != 0) = true := by rw [hce]; simpa using e2
        have HCE : Hid (Y2.err = ce) := hce.symm
        have HXE : Hid (X.err = ce) := hx.trans hce.symm
        have HXN : Hid (X.err ≠ 0) := by show X.err ≠ 0; rw [hx]; exact e2
        have HPX : Hid (place d X = 0) := place_err HXN.out
        have HPY : Hid (place pos Y2 = 0) := place_err e2
        clear hx hce
        rw [HCE.out, HPY.out]
        clear e2
        obtain ⟨wF, hwF, hF6, hKF⟩ := fill6 HZ2.out (.int .i64 0) (.slice none 0 0) (.bool false) (.int .i64 0) (.string ⟨#[]⟩) (.slice none 0 0)
        have HWF : Hid _ := hwF
        have HF6 : Hid _ := hF6
        have HBF : Hid (Below w.heap.size w wF) := HB2.out.trans (hKF.below HB2.out.size (fun z _ e => by have := HRE.out; omega))
        obtain ⟨_, f0, f1, f2, f3, f4, f5⟩ := blk6 HZ2.out
        obtain ⟨⟨g0, g1, g2, g3, g4, g5⟩, _⟩ := blk6 HG2.out
        have hlr := block_lt HZ2.out
        have hlg := block_lt HG2.out
        clear hwF hF6 hKF
        go_wp2_with fail
        rw [HWF.out]
        obtain ⟨⟨p0, p1, p2, p3, p4, p5⟩, _⟩ := blk6 HF6.out
        exact bodyPost_ret (v := .tuple #[.agg #[.int .i64 0, .slice none 0 0, .bool false, .int .i64 0, .string ⟨#[]⟩, .slice none 0 0], .slice none 0 0, .int .i64 0, .int .i64 ce]) (by simp [results, Tryd.results25, go_sem, p0, p1, p2, p3, p4, p5]) rfl
          ⟨_, _, _, _, _, _, _, _, _, _, by rw [HXE.out, HPX.out], HBF, fun e => absurd e HXN.out, fun e => absurd e HXN.out⟩
      case pos =>
        obtain ⟨hd2, hn0, hn1⟩ := manyR_done HY2.out e2
        rw [List.length_drop, HZL.out] at hd2
        have hR2b := reads_ok HR2.out (by rw [← HY2.out]; exact e2)
        rw [← HY2.out] at hR2b
        have hR3 := reads_bpure hR2b
        clear hR2b
        have HP2 : Hid (place pos Y2 = ((pos + Y2.done : Nat) : Int)) := place_ok e2
        have HE2 : Hid (Y2.err = 0) := e2
        rw [HE2.out, HP2.out]
        obtain ⟨n, hn⟩ := Int.eq_ofNat_of_zero_le hn0
        rw [hn] at hR3 hn1 ⊢
        obtain ⟨pos2, hpos2⟩ : ∃ pos2, pos2 = pos + Y2.done := ⟨_, rfl⟩
        have hpl2 : pos2 ≤ len := by omega
        rw [← hpos2] at hR3 ⊢
        have hR3c := reads_bpure (show Reads X zs d (bindR (pureR ([] : List Int)) _) pos2 id from hR3)
        have hR4 := reads_assoc (show Reads X zs d (bindR (bindR (optR (bitX f 2) v0 valueR) _) _) pos2 id from hR3c)
        clear hR3c
        have HR4 : Hid (Reads X zs d _ pos2 id) := hR4
        have hn4 : n ≤ 4096 := by omega
        clear hn hpos2 hd2 e2 HE2 HP2 HY2 HR2 hR3 hR4 hn0 hn1
        obtain ⟨_, f0, f1, f2, f3, f4, f5⟩ := blk6 HG2.out
        obtain ⟨w3, hw3⟩ : ∃ w3, w3 = (w2.setCell ⟨g, 0, none⟩ (.int .i64 n)) := ⟨_, rfl⟩
        have HW3 : Hid ((w2.setCell ⟨g, 0, none⟩ (.int .i64 n)) = w3) := hw3.symm
        have hK3 : Kept (fun k => k = g) w2 w3 := by rw [hw3]; exact (one_kept _ g 0 _)
        have HG3 : Hid (w3.heap[g]? = some (.cells #[.int .i64 n, .slice none 0 0, .bool false, .int .i64 0, .string ⟨#[]⟩, .slice none 0 0] 38 (0, 0))) := by rw [hw3]; exact (blk_set HG2.out 0 _)
        have HZ3 : Hid (w3.heap[r]? = some (.cells #[.int .i64 0, .slice none 0 0, .bool false, .int .i64 0, .string ⟨#[]⟩, .slice none 0 0] 38 (0, 0))) := (hK3.block r (block_lt HZ2.out) (by have := HGE.out; omega)).trans HZ2.out
        have HB3 : Hid (Below w.heap.size w w3) := HB2.out.trans (hK3.below HB2.out.size (fun z _ e => by have := HRE.out; have := HGE.out; omega))
        have H3 : Hid (IsB w3 a len cap zs) := HI.out.old HB3.out
        clear hw3 hK3
        have HBT : Hid (bitX f 2 = decide (f / 2 % 2 = 1) ∧ bitX f 4 = decide (4 ≤ f) ∧ bitX f 1 = decide (f % 2 = 1)) := bit_facts hf0 hf7
        have hpl2c : pos2 ≤ len := hpl2
        go_upto_if 99 with fail
        rw [HW3.out]
        clear HW3 f0 f1 f2 f3 f4 f5 HB2 HZ2 HG2 H2
        go_cut [13, 14] (fun pv ev wc => StR w r g X zs d len f n pv wc)
        case first =>
          by_cases hm : f / 2 % 2 = 1
          · have hm1 : (f / 2 % 2 == 1) = true := by simpa using hm
            have hm2 : bitX f 2 = true := by rw [HBT.out.1]; simpa using hm
            have hR5 := HR4.out
            rw [hm2] at hR5
            have HR5 : Hid (Reads X zs d (bindR valueR _) pos2 id) := hR5
            obtain ⟨Y3, hY3⟩ : ∃ Y3, Y3 = valueR (zs.drop pos2) := ⟨_, rfl⟩
            have HY3 : Hid (Y3 = valueR (zs.drop pos2)) := hY3
            obtain ⟨w4, hw4⟩ : ∃ w4, w4 = (w3.setCell ⟨g, 2, none⟩ (.bool true)) := ⟨_, rfl⟩
            have HW4 : Hid ((w3.setCell ⟨g, 2, none⟩ (.bool true)) = w4) := hw4.symm
            have hK4 : Kept (fun k => k = g) w3 w4 := by rw [hw4]; exact (one_kept _ g 2 _)
            have HG4 : Hid (w4.heap[g]? = some (.cells #[.int .i64 n, .slice none 0 0, .bool true, .int .i64 0, .string ⟨#[]⟩, .slice none 0 0] 38 (0, 0))) := by rw [hw4]; exact (blk_set HG3.out 2 _)
            have HZ4 : Hid (w4.heap[r]? = some (.cells #[.int .i64 0, .slice none 0 0, .bool false, .int .i64 0, .string ⟨#[]⟩, .slice none 0 0] 38 (0, 0))) := (hK4.block r (block_lt HZ3.out) (by have := HGE.out; omega)).trans HZ3.out
            have HB4 : Hid (Below w.heap.size w w4) := HB3.out.trans (hK4.below HB3.out.size (fun z _ e => by have := HRE.out; have := HGE.out; omega))
            have H4 : Hid (IsB w4 a len cap zs) := HI.out.old HB4.out
            clear hw4 hK4
            obtain ⟨_, f0, f1, f2, f3, f4, f5⟩ := blk6 HG3.out
            clear hR5 hY3 HR4
            go_wp2_with fail
            rw [HW4.out]
            refine (rgetValue_at H4.out pos2 hpl2c _ rfl HY3.out).mono ?_
            rintro e w5 ⟨rfl, hb5⟩
            have HB5 : Hid (Below w.heap.size w w5) := HB4.out.trans (hb5.mono HB4.out.size)
            have HZ5 : Hid (w5.heap[r]? = some (.cells #[.int .i64 0, .slice none 0 0, .bool false, .int .i64 0, .string ⟨#[]⟩, .slice none 0 0] 38 (0, 0))) := (hb5.block r (block_lt HZ4.out)).trans HZ4.out
            have HG5 : Hid (w5.heap[g]? = some (.cells #[.int .i64 n, .slice none 0 0, .bool true, .int .i64 0, .string ⟨#[]⟩, .slice none 0 0] 38 (0, 0))) := (hb5.block g (block_lt HG4.out)).trans HG4.out
            have H5 : Hid (IsB w5 a len cap zs) := HI.out.old HB5.out
            clear hb5 HW4 HB4 HZ4 HG4 H4 HB3 HZ3 HG3 H3 f0 f1 f2 f3 f4 f5
            obtain ⟨w6, hw6⟩ : ∃ w6, w6 = ((w5.setCell ⟨g, 3, none⟩ (.int .i64 Y3.val.1)).setCell ⟨g, 4, none⟩ (.string Y3.val.2)) := ⟨_, rfl⟩
            have HW6 : Hid (((w5.setCell ⟨g, 3, none⟩ (.int .i64 Y3.val.1)).setCell ⟨g, 4, none⟩ (.string Y3.val.2)) = w6) := hw6.symm
            have hK6 : Kept (fun k => k = g) w5 w6 := by rw [hw6]; exact ((one_kept _ g 3 _).trans (one_kept _ g 4 _) (fun i _ e => e))
            have HG6 : Hid (w6.heap[g]? = some (.cells #[.int .i64 n, .slice none 0 0, .bool true, .int .i64 Y3.val.1, .string Y3.val.2, .slice none 0 0] 38 (0, 0))) := by rw [hw6]; exact (blk_set (blk_set HG5.out 3 _) 4 _)
            have HZ6 : Hid (w6.heap[r]? = some (.cells #[.int .i64 0, .slice none 0 0, .bool false, .int .i64 0, .string ⟨#[]⟩, .slice none 0 0] 38 (0, 0))) := (hK6.block r (block_lt HZ5.out) (by have := HGE.out; omega)).trans HZ5.out
            have HB6 : Hid (Below w.heap.size w w6) := HB5.out.trans (hK6.below HB5.out.size (fun z _ e => by have := HRE.out; have := HGE.out; omega))
            have H6 : Hid (IsB w6 a len cap zs) := HI.out.old HB6.out
            clear hw6 hK6
            obtain ⟨_, f0, f1, f2, f3, f4, f5⟩ := blk6 HG5.out
            by_cases e3 : Y3.err = 0
            · have hd3 := valueR_done HY3.out e3
              rw [List.length_drop, HZL.out] at hd3
              have hR6 := reads_ok HR5.out (by rw [← HY3.out]; exact e3)
              rw [← HY3.out] at hR6
              have hR7 := reads_assoc hR6
              have HP3 : Hid (place pos2 Y3 = ((pos2 + Y3.done : Nat) : Int)) := place_ok e3
              have HE3 : Hid (Y3.err = 0) := e3
              rw [HE3.out, HP3.out]
              have HSR : Hid (StR w r g X zs d len f n (.int .i64 ((pos2 + Y3.done : Nat) : Int)) w6) := by
                refine ⟨pos2 + Y3.done, Y3.val, rfl, by show _ ≤ _; omega, ?_, HZ6, ?_, HB6⟩
                · show Reads _ _ _ _ _ _
                  rw [hm2]
                  exact reads_eqv hR7 (bind_congr (fun l => pure_bind))
                · show _ = _
                  rw [hm2]; exact HG6.out
              clear hR6 hR7 hd3 e3 HE3 HP3
              go_wp2_with fail
              rw [HW6.out]
              go_meet
              case rel => exact HSR.out
            · skip
              have hx : X.err = Y3.err := (reads_err HR5.out (by rw [← HY3.out]; exact e3)).trans (by rw [← HY3.out])
              obtain ⟨ce, hce⟩ : ∃ ce, ce = Y3.err := ⟨_, rfl⟩
              have hce0 : (ce != 0) = true := by rw [hce]; simpa using e3
              have HCE : Hid (Y3.err = ce) := hce.symm
              have HXE : Hid (X.err = ce) := hx.trans hce.symm
              have HXN : Hid (X.err ≠ 0) := by show X.err ≠ 0; rw [hx]; exact e3
              have HPX : Hid (place d X = 0) := place_err HXN.out
              have HPY : Hid (place pos2 Y3 = 0) := place_err e3
              clear hx hce
              rw [HCE.out, HPY.out]
              go_upto_if 110 with fail
              rw [HW6.out]
              clear e3 f0 f1 f2 f3 f4 f5
              obtain ⟨wF, hwF, hF6, hKF⟩ := fill6 HZ6.out (.int .i64 n) (.slice none 0 0) (.bool true) (.int .i64 Y3.val.1) (.string Y3.val.2) (.slice none 0 0)
              have HWF : Hid _ := hwF
              have HF6 : Hid _ := hF6
              have HBF : Hid (Below w.heap.size w wF) := HB6.out.trans (hKF.below HB6.out.size (fun z _ e => by have := HRE.out; omega))
              obtain ⟨_, f0, f1, f2, f3, f4, f5⟩ := blk6 HZ6.out
              obtain ⟨⟨g0, g1, g2, g3, g4, g5⟩, _⟩ := blk6 HG6.out
              have hlr := block_lt HZ6.out
              have hlg := block_lt HG6.out
              clear hwF hF6 hKF
              go_wp2_with fail
              rw [HWF.out]
              obtain ⟨⟨p0, p1, p2, p3, p4, p5⟩, _⟩ := blk6 HF6.out
              exact bodyPost_ret (v := .tuple #[.agg #[.int .i64 n, .slice none 0 0, .bool true, .int .i64 Y3.val.1, .string Y3.val.2, .slice none 0 0], .slice none 0 0, .int .i64 0, .int .i64 ce]) (by simp [results, Tryd.results25, go_sem, p0, p1, p2, p3, p4, p5]) rfl
                ⟨_, _, _, _, _, _, _, _, _, _, by rw [HXE.out, HPX.out], HBF, fun e => absurd e HXN.out, fun e => absurd e HXN.out⟩
          · have hm1 : (f / 2 % 2 == 1) = false := by simpa using hm
            have hm2 : bitX f 2 = false := by rw [HBT.out.1]; simpa using hm
            have hR5 := HR4.out
            rw [hm2] at hR5
            have hR6 := reads_bpure (show Reads X zs d (bindR (pureR v0) _) pos2 id from hR5)
            have HSR : Hid (StR w r g X zs d len f n (.int .i64 ((pos2 : Nat) : Int)) w3) := by
              refine ⟨pos2, v0, rfl, hpl2c, ?_, HZ3, ?_, HB3⟩
              · show Reads _ _ _ _ _ _
                rw [hm2]
                exact reads_eqv (reads_assoc hR6) (bind_congr (fun l => pure_bind))
              · show _ = _
                rw [hm2]; exact HG3.out
            clear hR5 hR6
            go_wp2_with fail
            go_meet
            case rel => exact HSR.out
        case rest =>
          obtain ⟨pos3, s, rfl, HP3, HR5, HZ7, HG7, HB7⟩ := hcut
          obtain ⟨w7, hw7⟩ : ∃ x, x = wc := ⟨_, rfl⟩
          subst hw7
          have H7 : Hid (IsB w7 a len cap zs) := HI.out.old HB7.out
          by_cases h4 : 4 ≤ f
          · have h4d : decide (4 ≤ f) = true := by simpa using h4
            have hb4 : bitX f 4 = true := by rw [HBT.out.2.1]; simpa using h4
            have hR6 := HR5.out
            rw [hb4] at hR6
            obtain ⟨x1, x2, x3⟩ := reads_pure (reads_bpure (show Reads X zs d (bindR (pureR ([] : List Col)) _) pos3 id from hR6))
            clear hR6 HR5
            obtain ⟨wF, hwF, hF6, hKF⟩ := fill6 HZ7.out (.int .i64 n) (.slice none 0 0) (.bool (bitX f 2)) (.int .i64 s.1) (.string s.2) (.slice none 0 0)
            have HWF : Hid _ := hwF
            have HF6 : Hid _ := hF6
            have HBF : Hid (Below w.heap.size w wF) := HB7.out.trans (hKF.below HB7.out.size (fun z _ e => by have := HRE.out; omega))
            have HXE : Hid (X.err = 0) := x1
            have HXP : Hid (place d X = ((pos3 : Nat) : Int)) := by show _ = _; rw [place_ok x1]; congr 1; omega
            have HXD : Hid (X.err = 0 → d + X.done ≤ len) := fun _ => by have := HP3.out; omega
            have HXV : Hid (X.val = ([], ((n : Int), [], bitX f 2, s, []))) := x3
            have HVE : Hid ((0 : Nat) = ([] : List Col).length) := rfl
            have HOF : Hid (OwnI 83 8 (VCol 20) wF (fun z => w.heap.size ≤ z) (.slice none 0 0) ([] : List Col)) := ownI_nil _ _ _ _ _
            obtain ⟨_, f0, f1, f2, f3, f4, f5⟩ := blk6 HZ7.out
            obtain ⟨⟨g0, g1, g2, g3, g4, g5⟩, _⟩ := blk6 HG7.out
            have hlr := block_lt HZ7.out
            have hlg := block_lt HG7.out
            clear hwF hF6 hKF x1 x2 x3
            go_wp2_with fail
            rw [HWF.out]
            obtain ⟨⟨p0, p1, p2, p3, p4, p5⟩, _⟩ := blk6 HF6.out
            exact bodyPost_ret (v := .tuple #[.agg #[.int .i64 n, .slice none 0 0, .bool (bitX f 2), .int .i64 s.1, .string s.2, .slice none 0 0], .slice none 0 0, .int .i64 pos3, .int .i64 0]) (by simp [results, Tryd.results25, go_sem, p0, p1, p2, p3, p4, p5]) rfl
              ⟨_, _, _, _, _, _, _, _, _, _, by rw [HXE.out, HXP.out], HBF, HXD.out, fun _ => ⟨by rw [HXV.out], by rw [HXV.out]; exact HVE.out, by rw [HXV.out], by rw [HXV.out], by rw [HXV.out], by rw [HXV.out]; rfl, by rw [HXV.out]; exact HOF.out, by rw [HXV.out]; exact ownI_nil _ _ _ _ _⟩⟩
          · have h4d : decide (4 ≤ f) = false := by simpa using h4
            have hb4 : bitX f 4 = false := by rw [HBT.out.2.1]; simpa using h4
            have hR6 := HR5.out
            rw [hb4] at hR6
            have HR7 : Hid (Reads X zs d (bindR (optR (bitX f 1) (ByteArray.empty, ByteArray.empty) ownerR) _) pos3 id) := reads_assoc (show Reads X zs d (bindR (bindR (optR (bitX f 1) (ByteArray.empty, ByteArray.empty) ownerR) _) _) pos3 id from (show Reads X zs d (bindR (colsR n (bitX f 1)) _) pos3 id from hR6))
            obtain ⟨q, hq⟩ : ∃ q, q = w7.heap.size := ⟨_, rfl⟩
            have HQE : Hid (w7.heap.size = q) := hq.symm
            have HGQ : Hid (g < q) := by show g < q; rw [hq]; exact block_lt HG7.out
            obtain ⟨w8, hw8⟩ : ∃ w8, w8 = w7.alloc (.cells #[.string ⟨#[]⟩, .string ⟨#[]⟩, .string ⟨#[]⟩, .int .u16 0, .string ⟨#[]⟩, .string ⟨#[]⟩, .slice none 0 0, .slice none 0 0] 83) := ⟨_, rfl⟩
            have HW8 : Hid (w7.alloc (.cells #[.string ⟨#[]⟩, .string ⟨#[]⟩, .string ⟨#[]⟩, .int .u16 0, .string ⟨#[]⟩, .string ⟨#[]⟩, .slice none 0 0, .slice none 0 0] 83) = w8) := hw8.symm
            have HA8 : Hid (w8.heap[q]? = some (.cells #[.string ⟨#[]⟩, .string ⟨#[]⟩, .string ⟨#[]⟩, .int .u16 0, .string ⟨#[]⟩, .string ⟨#[]⟩, .slice none 0 0, .slice none 0 0] 83 (0, 0))) := by rw [hw8, hq]; exact heap_alloc_new w7 _
            have hb8 : Below w7.heap.size w7 w8 := by rw [hw8]; exact below_one _ _
            have HZ8 : Hid (w8.heap[r]? = some (.cells #[.int .i64 0, .slice none 0 0, .bool false, .int .i64 0, .string ⟨#[]⟩, .slice none 0 0] 38 (0, 0))) := (hb8.block r (block_lt HZ7.out)).trans HZ7.out
            have HG8 : Hid (w8.heap[g]? = some (.cells #[.int .i64 n, .slice none 0 0, .bool (bitX f 2), .int .i64 s.1, .string s.2, .slice none 0 0] 38 (0, 0))) := (hb8.block g (block_lt HG7.out)).trans HG7.out
            have HB8 : Hid (Below w.heap.size w w8) := HB7.out.trans (hb8.mono HB7.out.size)
            have H8 : Hid (IsB w8 a len cap zs) := HI.out.old HB8.out
            clear hq hw8 hb8 hR6 HR5 HB7 HZ7 HG7 H7
            go_upto_if 120 with fail
            rw [HW8.out]
            (try rw [HQE.out])
            clear HW8 HQE
            by_cases hg : f % 2 = 1
            · have hg1 : (f % 2 == 1) = true := by simpa using hg
              have hg0 : (f % 2 == 0) = false := by simp; omega
              have hb1 : bitX f 1 = true := by rw [HBT.out.2.2]; simpa using hg
              have hR8 := HR7.out
              rw [hb1] at hR8
              have HR8 : Hid (Reads X zs d (bindR ownerR _) pos3 id) := hR8
              obtain ⟨Y4, hY4⟩ : ∃ Y4, Y4 = ownerR (zs.drop pos3) := ⟨_, rfl⟩
              have HY4 : Hid (Y4 = ownerR (zs.drop pos3)) := hY4
              clear hR8 hY4 HR7
              go_wp2_with fail
              refine (names_at H8.out pos3 HP3.out _ rfl HY4.out).mono ?_
              rintro e w9 ⟨s4, t4, rfl, HV4, HD4, hb9⟩
              have HZ9 : Hid (w9.heap[r]? = some (.cells #[.int .i64 0, .slice none 0 0, .bool false, .int .i64 0, .string ⟨#[]⟩, .slice none 0 0] 38 (0, 0))) := (hb9.block r (block_lt HZ8.out)).trans HZ8.out
              have HG9 : Hid (w9.heap[g]? = some (.cells #[.int .i64 n, .slice none 0 0, .bool (bitX f 2), .int .i64 s.1, .string s.2, .slice none 0 0] 38 (0, 0))) := (hb9.block g (block_lt HG8.out)).trans HG8.out
              have HA9 : Hid (w9.heap[q]? = some (.cells #[.string ⟨#[]⟩, .string ⟨#[]⟩, .string ⟨#[]⟩, .int .u16 0, .string ⟨#[]⟩, .string ⟨#[]⟩, .slice none 0 0, .slice none 0 0] 83 (0, 0))) := (hb9.block q (block_lt HA8.out)).trans HA8.out
              have HB9 : Hid (Below w.heap.size w w9) := HB8.out.trans (hb9.mono HB8.out.size)
              have H9 : Hid (IsB w9 a len cap zs) := HI.out.old HB9.out
              obtain ⟨w10, hw10, hA10, hK10⟩ := fill8 HA9.out (.string s4) (.string t4) (.string ⟨#[]⟩) (.int .u16 0) (.string ⟨#[]⟩) (.string ⟨#[]⟩) (.slice none 0 0) (.slice none 0 0)
              have HW10 : Hid _ := hw10
              have HA10 : Hid (w10.heap[q]? = some (.cells #[.string s4, .string t4, .string ⟨#[]⟩, .int .u16 0, .string ⟨#[]⟩, .string ⟨#[]⟩, .slice none 0 0, .slice none 0 0] 83 (0, 0))) := hA10
              have HZ10 : Hid (w10.heap[r]? = some (.cells #[.int .i64 0, .slice none 0 0, .bool false, .int .i64 0, .string ⟨#[]⟩, .slice none 0 0] 38 (0, 0))) := (hK10.block r (block_lt HZ9.out) (by have := HGQ.out; have := HGE.out; have := HRE.out; omega)).trans HZ9.out
              have HG10 : Hid (w10.heap[g]? = some (.cells #[.int .i64 n, .slice none 0 0, .bool (bitX f 2), .int .i64 s.1, .string s.2, .slice none 0 0] 38 (0, 0))) := (hK10.block g (block_lt HG9.out) (by have := HGQ.out; have := HGE.out; have := HRE.out; omega)).trans HG9.out
              have HB10 : Hid (Below w.heap.size w w10) := HB9.out.trans (hK10.below HB9.out.size (fun z _ e => by have := HGQ.out; have := HGE.out; have := HRE.out; omega))
              have H10 : Hid (IsB w10 a len cap zs) := HI.out.old HB10.out
              obtain ⟨_, z0, z1, z2, z3, z4, z5, z6, z7⟩ := blk8 HA9.out
              clear hb9 hw10 hA10 hK10 HB8 HZ8 HG8 HA8 H8 HZ9 HG9 HB9 H9
              by_cases e4 : Y4.err = 0
              case neg =>
                have hx : X.err = Y4.err := (reads_err HR8.out (by rw [← HY4.out]; exact e4)).trans (by rw [← HY4.out])
                obtain ⟨ce, hce⟩ : ∃ ce, ce = Y4.err := ⟨_, rfl⟩
                have hce0 : (ce != 0) = true := by rw [hce]; simpa using e4
                have HCE : Hid (Y4.err = ce) := hce.symm
                have HXE : Hid (X.err = ce) := hx.trans hce.symm
                have HXN : Hid (X.err ≠ 0) := by show X.err ≠ 0; rw [hx]; exact e4
                have HPX : Hid (place d X = 0) := place_err HXN.out
                have HPY : Hid (place pos3 Y4 = 0) := place_err e4
                clear hx hce
                rw [HCE.out, HPY.out]
                go_upto_if 129 with fail
                rw [HW10.out]
                clear e4 z0 z1 z2 z3 z4 z5 z6 z7
                obtain ⟨wF, hwF, hF6, hKF⟩ := fill6 HZ10.out (.int .i64 n) (.slice none 0 0) (.bool (bitX f 2)) (.int .i64 s.1) (.string s.2) (.slice none 0 0)
                have HWF : Hid _ := hwF
                have HF6 : Hid _ := hF6
                have HBF : Hid (Below w.heap.size w wF) := HB10.out.trans (hKF.below HB10.out.size (fun z _ e => by have := HRE.out; omega))
                obtain ⟨_, f0, f1, f2, f3, f4, f5⟩ := blk6 HZ10.out
                obtain ⟨⟨g0, g1, g2, g3, g4, g5⟩, _⟩ := blk6 HG10.out
                have hlr := block_lt HZ10.out
                have hlg := block_lt HG10.out
                clear hwF hF6 hKF
                go_wp2_with fail
                rw [HWF.out]
                obtain ⟨⟨p0, p1, p2, p3, p4, p5⟩, _⟩ := blk6 HF6.out
                exact bodyPost_ret (v := .tuple #[.agg #[.int .i64 n, .slice none 0 0, .bool (bitX f 2), .int .i64 s.1, .string s.2, .slice none 0 0], .slice none 0 0, .int .i64 0, .int .i64 ce]) (by simp [results, Tryd.results25, go_sem, p0, p1, p2, p3, p4, p5]) rfl
                  ⟨_, _, _, _, _, _, _, _, _, _, by rw [HXE.out, HPX.out], HBF, fun e => absurd e HXN.out, fun e => absurd e HXN.out⟩
              case pos =>
                have hR9 := reads_ok HR8.out (by rw [← HY4.out]; exact e4)
                rw [← HY4.out, HV4.out e4] at hR9
                have hsz4 := owner_sz HY4.out e4 (HV4.out e4)
                rw [List.length_drop, HZL.out] at hsz4
                have HOSZ : Hid (s4.size ≤ maxLen ∧ t4.size ≤ maxLen) := ⟨by unfold maxLen; omega, by unfold maxLen; omega⟩
                have HP4 : Hid (place pos3 Y4 = ((pos3 + Y4.done : Nat) : Int)) := place_ok e4
                have HE4 : Hid (Y4.err = 0) := e4
                have HDD4 : Hid (pos3 + Y4.done ≤ len) := HD4.out e4
                go_upto_if 129 with fail
                rw [HW10.out]
                (try rw [HE4.out])
                rw [HP4.out]
                obtain ⟨pos4, hpos4⟩ : ∃ pos4, pos4 = pos3 + Y4.done := ⟨_, rfl⟩
                rw [← hpos4] at hR9 HDD4 ⊢
                have HR9 : Hid (Reads X zs d (bindR (loopR (colR true (s4, t4)) n) fun l => pureR (([] : List Int), (((n : Int), ([] : List Col) ++ l, bitX f 2, s, []) : Tb))) pos4 id) := hR9
                clear hR9 z0 z1 z2 z3 z4 z5 z6 z7 hpos4 hsz4 e4 HE4 HP4 HD4 HV4 HY4 HR8 HW10 HA9
                obtain ⟨o, ho⟩ : ∃ o : ByteArray × ByteArray, o = (s4, t4) := ⟨_, rfl⟩
                have HAo : Hid (w10.heap[q]? = some (.cells #[.string o.1, .string o.2, .string ⟨#[]⟩, .int .u16 0, .string ⟨#[]⟩, .string ⟨#[]⟩, .slice none 0 0, .slice none 0 0] 83 (0, 0))) := by rw [ho]; exact HA10.out
                have HRo : Hid (Reads X zs d (bindR (loopR (colR true o) n) fun l => pureR (([] : List Int), (((n : Int), ([] : List Col) ++ l, bitX f 2, s, []) : Tb))) pos4 id) := by rw [ho]; exact HR9.out
                have HOS : Hid (o.1.size ≤ maxLen ∧ o.2.size ≤ maxLen) := by rw [ho]; exact HOSZ.out
                clear ho HOSZ HA10
                go_wp2_with fail
                go_loopw [13, 21] (fun pv t wr => LpR w r g q X zs d len true (bitX f 2) o s n pv t wr) (fun _ t _ => n - (intOf t).toNat)
                case atStart => exact ⟨0, pos4, none, 0, [], by omega, rfl, rfl, HDD4, rfl, HRo, HZ10, HG10, HAo, ownI_nil _ _ _ _ _, HB10⟩
                case round =>
                  obtain ⟨i, ps, xa, xc, acc, hi, rfl, rfl, HPi, HLi, HRi, HZ20, HG20, HA20, HO20, HB20⟩ := hrel
                  obtain ⟨w20, hw20⟩ : ∃ x, x = wr := ⟨_, rfl⟩
                  subst hw20
                  by_cases hlt : i < n
                  · obtain ⟨m, hm⟩ : ∃ m, n - i = m + 1 := ⟨n - i - 1, by omega⟩
                    have hRa := HRi.out
                    rw [hm] at hRa
                    have hRb := reads_assoc (show Reads X zs d (bindR (bindR (optR (!true) o ownerR) _) _) ps id from reads_loop hRa)
                    obtain ⟨c, hc⟩ : ∃ c, c = w20.heap.size := ⟨_, rfl⟩
                    have HCE : Hid (w20.heap.size = c) := hc.symm
                    have HQC : Hid (q < c) := by show q < c; rw [hc]; exact block_lt HA20.out
                    obtain ⟨w21, hw21⟩ : ∃ w21, w21 = w20.alloc (.cells #[.string o.1, .string o.2, .string ⟨#[]⟩, .int .u16 0, .string ⟨#[]⟩, .string ⟨#[]⟩, .slice none 0 0, .slice none 0 0] 83) := ⟨_, rfl⟩
                    have HW21 : Hid (w20.alloc (.cells #[.string o.1, .string o.2, .string ⟨#[]⟩, .int .u16 0, .string ⟨#[]⟩, .string ⟨#[]⟩, .slice none 0 0, .slice none 0 0] 83) = w21) := hw21.symm
                    have HC21 : Hid (w21.heap[c]? = some (.cells #[.string o.1, .string o.2, .string ⟨#[]⟩, .int .u16 0, .string ⟨#[]⟩, .string ⟨#[]⟩, .slice none 0 0, .slice none 0 0] 83 (0, 0))) := by rw [hw21, hc]; exact heap_alloc_new w20 _
                    have hb21 : Below w20.heap.size w20 w21 := by rw [hw21]; exact below_one _ _
                    have HO21 : Hid (OwnI 83 8 (VCol 20) w21 (fun z => q < z ∧ z < c) (.slice xa i xc) acc) := (HO20.out.sub (stays_col 20) (fun z hz hf => ⟨hf, by rw [hc]; exact hz⟩)).old (stays_col 20) hb21
                    have HZ21 : Hid (w21.heap[r]? = some (.cells #[.int .i64 0, .slice none 0 0, .bool false, .int .i64 0, .string ⟨#[]⟩, .slice none 0 0] 38 (0, 0))) := (hb21.block r (block_lt HZ20.out)).trans HZ20.out
                    have HG21 : Hid (w21.heap[g]? = some (.cells #[.int .i64 n, .slice xa i xc, .bool (bitX f 2), .int .i64 s.1, .string s.2, .slice none 0 0] 38 (0, 0))) := (hb21.block g (block_lt HG20.out)).trans HG20.out
                    have HA21 : Hid (w21.heap[q]? = some (.cells #[.string o.1, .string o.2, .string ⟨#[]⟩, .int .u16 0, .string ⟨#[]⟩, .string ⟨#[]⟩, .slice none 0 0, .slice none 0 0] 83 (0, 0))) := (hb21.block q (block_lt HA20.out)).trans HA20.out
                    have HB21 : Hid (Below w.heap.size w w21) := HB20.out.trans (hb21.mono HB20.out.size)
                    have H21 : Hid (IsB w21 a len cap zs) := HI.out.old HB21.out
                    obtain ⟨⟨y0, y1, y2, y3, y4, y5, y6, y7⟩, _⟩ := blk8 HA20.out
                    clear hRa hc hw21 hb21 HRi HZ20 HG20 HB20 HO20
                    go_upto_if 140 with fail
                    rw [HW21.out]
                    (try rw [HCE.out])
                    clear HW21 y0 y1 y2 y3 y4 y5 y6 y7 HA20
                    have hRc := reads_bpure (show Reads X zs d (bindR (pureR o) _) ps id from hRb)
                    have HRd : Hid (Reads X zs d (bindR textR _) ps id) := reads_assoc hRc
                    obtain ⟨Y6, hY6⟩ : ∃ Y6, Y6 = textR (zs.drop ps) := ⟨_, rfl⟩
                    have HY6 : Hid (Y6 = textR (zs.drop ps)) := hY6
                    obtain ⟨w24, hw24⟩ : ∃ w24, w24 = w21.setCell ⟨c, 2, none⟩ (.string Y6.val) := ⟨_, rfl⟩
                    have HW24 : Hid (w21.setCell ⟨c, 2, none⟩ (.string Y6.val) = w24) := hw24.symm
                    have hK24 : Kept (fun k => k = c) w21 w24 := by rw [hw24]; exact one_kept _ c 2 _
                    have HC24 : Hid (w24.heap[c]? = some (.cells #[.string o.1, .string o.2, .string Y6.val, .int .u16 0, .string ⟨#[]⟩, .string ⟨#[]⟩, .slice none 0 0, .slice none 0 0] 83 (0, 0))) := by rw [hw24]; exact blk_set HC21.out 2 _
                    have HO24 : Hid (OwnI 83 8 (VCol 20) w24 (fun z => q < z ∧ z < c) (.slice xa i xc) acc) := HO21.out.apart (stays_col 20) hK24 (fun z _ hf e => by omega)
                    have HZ24 : Hid (w24.heap[r]? = some (.cells #[.int .i64 0, .slice none 0 0, .bool false, .int .i64 0, .string ⟨#[]⟩, .slice none 0 0] 38 (0, 0))) := (hK24.block r (block_lt HZ21.out) (by have := HQC.out; have := HGQ.out; have := HGE.out; have := HRE.out; omega)).trans HZ21.out
                    have HG24 : Hid (w24.heap[g]? = some (.cells #[.int .i64 n, .slice xa i xc, .bool (bitX f 2), .int .i64 s.1, .string s.2, .slice none 0 0] 38 (0, 0))) := (hK24.block g (block_lt HG21.out) (by have := HQC.out; have := HGQ.out; have := HGE.out; have := HRE.out; omega)).trans HG21.out
                    have HA24 : Hid (w24.heap[q]? = some (.cells #[.string o.1, .string o.2, .string ⟨#[]⟩, .int .u16 0, .string ⟨#[]⟩, .string ⟨#[]⟩, .slice none 0 0, .slice none 0 0] 83 (0, 0))) := (hK24.block q (block_lt HA21.out) (by have := HQC.out; have := HGQ.out; have := HGE.out; have := HRE.out; omega)).trans HA21.out
                    have HB24 : Hid (Below w.heap.size w w24) := HB21.out.trans (hK24.below HB21.out.size (fun z _ e => by have := HQC.out; have := HGQ.out; have := HGE.out; have := HRE.out; omega))
                    have H24 : Hid (IsB w24 a len cap zs) := HI.out.old HB24.out
                    obtain ⟨_, z0, z1, z2, z3, z4, z5, z6, z7⟩ := blk8 HC21.out
                    clear hRc hY6 hw24 hK24 HB21 HZ21 HG21 HA21 HO21
                    go_wp2_with fail
                    refine (rgetText_at H21.out ps HPi.out _ rfl HY6.out).mono ?_
                    rintro e w9x ⟨rfl, rfl⟩
                    go_upto_if 161 with fail
                    rw [HW24.out]
                    clear HW24 z0 z1 z2 z3 z4 z5 z6 z7 HC21 H21
                    by_cases e6 : Y6.err = 0
                    case neg =>
                      have hx : X.err = Y6.err := (reads_err HRd.out (by rw [← HY6.out]; exact e6)).trans (by rw [← HY6.out])
                      obtain ⟨ce, hce⟩ : ∃ ce, ce = Y6.err := ⟨_, rfl⟩
                      have hce0 : (ce != 0) = true := by rw [hce]; simpa using e6
                      have HCEE : Hid (Y6.err = ce) := hce.symm
                      have HXE : Hid (X.err = ce) := hx.trans hce.symm
                      have HXN : Hid (X.err ≠ 0) := by show X.err ≠ 0; rw [hx]; exact e6
                      have HPX : Hid (place d X = 0) := place_err HXN.out
                      have HPY : Hid (place ps Y6 = 0) := place_err e6
                      clear hx hce
                      rw [HCEE.out, HPY.out]
                      clear e6
                      obtain ⟨wF, hwF, hF6, hKF⟩ := fill6 HZ24.out (.int .i64 n) (.slice xa i xc) (.bool (bitX f 2)) (.int .i64 s.1) (.string s.2) (.slice none 0 0)
                      have HWF : Hid _ := hwF
                      have HF6 : Hid _ := hF6
                      have HBF : Hid (Below w.heap.size w wF) := HB24.out.trans (hKF.below HB24.out.size (fun z _ e => by have := HRE.out; omega))
                      obtain ⟨_, f0, f1, f2, f3, f4, f5⟩ := blk6 HZ24.out
                      obtain ⟨⟨g0, g1, g2, g3, g4, g5⟩, _⟩ := blk6 HG24.out
                      have hlr := block_lt HZ24.out
                      have hlg := block_lt HG24.out
                      clear hwF hF6 hKF
                      go_wp2_with fail
                      rw [HWF.out]
                      obtain ⟨⟨p0, p1, p2, p3, p4, p5⟩, _⟩ := blk6 HF6.out
                      exact bodyPost_ret (v := .tuple #[.agg #[.int .i64 n, .slice xa i xc, .bool (bitX f 2), .int .i64 s.1, .string s.2, .slice none 0 0], .slice none 0 0, .int .i64 0, .int .i64 ce]) (by simp [results, Tryd.results25, go_sem, p0, p1, p2, p3, p4, p5]) rfl
                        ⟨_, _, _, _, _, _, _, _, _, _, by rw [HXE.out, HPX.out], HBF, fun e => absurd e HXN.out, fun e => absurd e HXN.out⟩
                    case pos =>
                      have hd6 := textR_done e6 HY6.out
                      rw [List.length_drop, HZL.out] at hd6
                      have hsz6 := text_size (zs.drop ps)
                      rw [← HY6.out, List.length_drop, HZL.out] at hsz6
                      have hRe := reads_ok HRd.out (by rw [← HY6.out]; exact e6)
                      rw [← HY6.out] at hRe
                      have HP6 : Hid (place ps Y6 = ((ps + Y6.done : Nat) : Int)) := place_ok e6
                      have HE6 : Hid (Y6.err = 0) := e6
                      rw [HE6.out, HP6.out]
                      obtain ⟨ps6, hps6⟩ : ∃ ps6, ps6 = ps + Y6.done := ⟨_, rfl⟩
                      have HPS6 : Hid (ps6 ≤ len) := by have := HPi.out; show ps6 ≤ len; omega
                      rw [← hps6] at hRe ⊢
                      have HRf : Hid (Reads X zs d (bindR (tyR 20) _) ps6 id) := reads_assoc hRe
                      have HSZ6 : Hid (Y6.val.size ≤ maxLen) := by show _ ≤ _; unfold maxLen; omega
                      obtain ⟨Y7, hY7⟩ : ∃ Y7, Y7 = tyR 20 (zs.drop ps6) := ⟨_, rfl⟩
                      have HY7 : Hid (Y7 = tyR 20 (zs.drop ps6)) := hY7
                      clear hRe hps6 hd6 hsz6 hY7 e6 HE6 HP6 HY6 HRd
                      go_wp2_with fail
                      refine (getsRef 20 (Nat.le_refl _) w24 a len cap zs H24.out (by omega) ps6 HPS6.out Y7 HY7.out _ _ rfl (by decide)).mono ?_
                      rintro e w25 ⟨na, nl, nc, ka, kl, kc, rfl, HTY, HD7, hb25⟩
                      have HZ25 : Hid (w25.heap[r]? = some (.cells #[.int .i64 0, .slice none 0 0, .bool false, .int .i64 0, .string ⟨#[]⟩, .slice none 0 0] 38 (0, 0))) := (hb25.block r (block_lt HZ24.out)).trans HZ24.out
                      have HG25 : Hid (w25.heap[g]? = some (.cells #[.int .i64 n, .slice xa i xc, .bool (bitX f 2), .int .i64 s.1, .string s.2, .slice none 0 0] 38 (0, 0))) := (hb25.block g (block_lt HG24.out)).trans HG24.out
                      have HA25 : Hid (w25.heap[q]? = some (.cells #[.string o.1, .string o.2, .string ⟨#[]⟩, .int .u16 0, .string ⟨#[]⟩, .string ⟨#[]⟩, .slice none 0 0, .slice none 0 0] 83 (0, 0))) := (hb25.block q (block_lt HA24.out)).trans HA24.out
                      have HC25 : Hid (w25.heap[c]? = some (.cells #[.string o.1, .string o.2, .string Y6.val, .int .u16 0, .string ⟨#[]⟩, .string ⟨#[]⟩, .slice none 0 0, .slice none 0 0] 83 (0, 0))) := (hb25.block c (block_lt HC24.out)).trans HC24.out
                      have HB25 : Hid (Below w.heap.size w w25) := HB24.out.trans (hb25.mono HB24.out.size)
                      have H25 : Hid (IsB w25 a len cap zs) := HI.out.old HB25.out
                      have HO25 : Hid (OwnI 83 8 (VCol 20) w25 (fun z => q < z ∧ z < c) (.slice xa i xc) acc) := HO24.out.old (stays_col 20) hb25
                      have HS24 : Hid (c < w24.heap.size) := block_lt HC24.out
                      obtain ⟨w26, hw26, hC26, hK26⟩ := fill5 HC25.out (.int .u16 Y7.val.id) (.string Y7.val.space) (.string Y7.val.name) (.slice na nl nc) (.slice ka kl kc)
                      have HW26 : Hid _ := hw26
                      have HC26 : Hid (w26.heap[c]? = some (.cells #[.string o.1, .string o.2, .string Y6.val, .int .u16 Y7.val.id, .string Y7.val.space, .string Y7.val.name, .slice na nl nc, .slice ka kl kc] 83 (0, 0))) := hC26
                      have HK26 : Hid (Kept (fun k => k = c) w25 w26) := hK26
                      have HO26 : Hid (OwnI 83 8 (VCol 20) w26 (fun z => q < z ∧ z < c) (.slice xa i xc) acc) := HO25.out.apart (stays_col 20) hK26 (fun z _ hf e => by omega)
                      have HZ26 : Hid (w26.heap[r]? = some (.cells #[.int .i64 0, .slice none 0 0, .bool false, .int .i64 0, .string ⟨#[]⟩, .slice none 0 0] 38 (0, 0))) := (hK26.block r (block_lt HZ25.out) (by have := HQC.out; have := HGQ.out; have := HGE.out; have := HRE.out; omega)).trans HZ25.out
                      have HG26 : Hid (w26.heap[g]? = some (.cells #[.int .i64 n, .slice xa i xc, .bool (bitX f 2), .int .i64 s.1, .string s.2, .slice none 0 0] 38 (0, 0))) := (hK26.block g (block_lt HG25.out) (by have := HQC.out; have := HGQ.out; have := HGE.out; have := HRE.out; omega)).trans HG25.out
                      have HA26 : Hid (w26.heap[q]? = some (.cells #[.string o.1, .string o.2, .string ⟨#[]⟩, .int .u16 0, .string ⟨#[]⟩, .string ⟨#[]⟩, .slice none 0 0, .slice none 0 0] 83 (0, 0))) := (hK26.block q (block_lt HA25.out) (by have := HQC.out; have := HGQ.out; have := HGE.out; have := HRE.out; omega)).trans HA25.out
                      have HB26 : Hid (Below w.heap.size w w26) := HB25.out.trans (hK26.below HB25.out.size (fun z _ e => by have := HQC.out; have := HGQ.out; have := HGE.out; have := HRE.out; omega))
                      have H26 : Hid (IsB w26 a len cap zs) := HI.out.old HB26.out
                      obtain ⟨_, z0, z1, z2, z3, z4, z5, z6, z7⟩ := blk8 HC25.out
                      clear hb25 hw26 hC26 hK26 HB24 HZ24 HG24 HA24 H24 HC24 HO24 HO25 HA25 H25 HB25 HZ25 HG25
                      by_cases e7 : Y7.err = 0
                      case neg =>
                        have hx : X.err = Y7.err := (reads_err HRf.out (by rw [← HY7.out]; exact e7)).trans (by rw [← HY7.out])
                        obtain ⟨ce, hce⟩ : ∃ ce, ce = Y7.err := ⟨_, rfl⟩
                        have hce0 : (ce != 0) = true := by rw [hce]; simpa using e7
                        have HCEE : Hid (Y7.err = ce) := hce.symm
                        have HXE : Hid (X.err = ce) := hx.trans hce.symm
                        have HXN : Hid (X.err ≠ 0) := by show X.err ≠ 0; rw [hx]; exact e7
                        have HPX : Hid (place d X = 0) := place_err HXN.out
                        have HPY : Hid (place ps6 Y7 = 0) := place_err e7
                        clear hx hce
                        rw [HCEE.out, HPY.out]
                        go_upto_if 173 with fail
                        rw [HW26.out]
                        clear e7 z0 z1 z2 z3 z4 z5 z6 z7
                        obtain ⟨wF, hwF, hF6, hKF⟩ := fill6 HZ26.out (.int .i64 n) (.slice xa i xc) (.bool (bitX f 2)) (.int .i64 s.1) (.string s.2) (.slice none 0 0)
                        have HWF : Hid _ := hwF
                        have HF6 : Hid _ := hF6
                        have HBF : Hid (Below w.heap.size w wF) := HB26.out.trans (hKF.below HB26.out.size (fun z _ e => by have := HRE.out; omega))
                        obtain ⟨_, f0, f1, f2, f3, f4, f5⟩ := blk6 HZ26.out
                        obtain ⟨⟨g0, g1, g2, g3, g4, g5⟩, _⟩ := blk6 HG26.out
                        have hlr := block_lt HZ26.out
                        have hlg := block_lt HG26.out
                        clear hwF hF6 hKF
                        go_wp2_with fail
                        rw [HWF.out]
                        obtain ⟨⟨p0, p1, p2, p3, p4, p5⟩, _⟩ := blk6 HF6.out
                        exact bodyPost_ret (v := .tuple #[.agg #[.int .i64 n, .slice xa i xc, .bool (bitX f 2), .int .i64 s.1, .string s.2, .slice none 0 0], .slice none 0 0, .int .i64 0, .int .i64 ce]) (by simp [results, Tryd.results25, go_sem, p0, p1, p2, p3, p4, p5]) rfl
                          ⟨_, _, _, _, _, _, _, _, _, _, by rw [HXE.out, HPX.out], HBF, fun e => absurd e HXN.out, fun e => absurd e HXN.out⟩
                      case pos =>
                        have hRg := reads_bpure (show Reads X zs d (bindR (pureR ((o.1, o.2, Y6.val, Y7.val) : Col)) _) (ps6 + Y7.done) id from (by have h9 := reads_ok HRf.out (by rw [← HY7.out]; exact e7); rw [← HY7.out] at h9; exact h9))
                        have hF9 : ∀ l : List Col, acc ++ ((o.1, o.2, Y6.val, Y7.val) : Col) :: l = (acc ++ [((o.1, o.2, Y6.val, Y7.val) : Col)]) ++ l := fun l => by simp
                        have HRh : Hid (Reads X zs d (bindR (loopR (colR true o) m) fun l => pureR (([] : List Int), (((n : Int), (acc ++ [((o.1, o.2, Y6.val, Y7.val) : Col)]) ++ l, bitX f 2, s, []) : Tb))) (ps6 + Y7.done) id) := by
                          show Reads _ _ _ _ _ _
                          simp only [← hF9]
                          exact hRg
                        have HP7 : Hid (place ps6 Y7 = ((ps6 + Y7.done : Nat) : Int)) := place_ok e7
                        have HE7 : Hid (Y7.err = 0) := e7
                        have HDD7 : Hid (ps6 + Y7.done ≤ len) := HD7.out e7
                        go_upto_if 173 with fail
                        rw [HW26.out]
                        (try rw [HE7.out])
                        rw [HP7.out]
                        obtain ⟨ps7, hps7⟩ : ∃ ps7, ps7 = ps6 + Y7.done := ⟨_, rfl⟩
                        rw [← hps7] at HRh HDD7 ⊢
                        have HMI : Hid (m = n - (i + 1)) := by show _ = _; omega
                        clear hRg hF9 hps7 e7 HE7 HP7 HD7 HY7 HRf HW26 z0 z1 z2 z3 z4 z5 z6 z7
                        have hBw : Below w26.heap.size w26 (w26.alloc (.cells #[.string o.1, .string o.2, .string Y6.val, .int .u16 Y7.val.id, .string Y7.val.space, .string Y7.val.name, .slice na nl nc, .slice ka kl kc] 83)) := below_one _ _
                        have HBN : Hid ((w26.alloc (.cells #[.string o.1, .string o.2, .string Y6.val, .int .u16 Y7.val.id, .string Y7.val.space, .string Y7.val.name, .slice na nl nc, .slice ka kl kc] 83)).heap[w26.heap.size]? = some (.cells [Value.string o.1, Value.string o.2, Value.string Y6.val, Value.int .u16 Y7.val.id, Value.string Y7.val.space, Value.string Y7.val.name, Value.slice na nl nc, Value.slice ka kl kc].toArray 83 (0, 0))) := heap_alloc_new w26 _
                        have HON : Hid (OwnI 83 8 (VCol 20) (w26.alloc (.cells #[.string o.1, .string o.2, .string Y6.val, .int .u16 Y7.val.id, .string Y7.val.space, .string Y7.val.name, .slice na nl nc, .slice ka kl kc] 83)) (fun z => q < z) (.slice xa i xc) acc) := (HO26.out.old (stays_col 20) hBw).sub (stays_col 20) (fun z _ hf => hf.1)
                        have HS25 : Hid (w25.heap.size ≤ w26.heap.size) := HK26.out.size
                        have HXN : Hid (VCol 20 (fun z => z < (w26.alloc (.cells #[.string o.1, .string o.2, .string Y6.val, .int .u16 Y7.val.id, .string Y7.val.space, .string Y7.val.name, .slice na nl nc, .slice ka kl kc] 83)).heap.size ∧ (Value.slice xa i xc).ownBlock ≠ some z ∧ q < z) (w26.alloc (.cells #[.string o.1, .string o.2, .string Y6.val, .int .u16 Y7.val.id, .string Y7.val.space, .string Y7.val.name, .slice na nl nc, .slice ka kl kc] 83)) ((o.1, o.2, Y6.val, Y7.val) : Col) (fun j => ([Value.string o.1, Value.string o.2, Value.string Y6.val, Value.int .u16 Y7.val.id, Value.string Y7.val.space, Value.string Y7.val.name, Value.slice na nl nc, Value.slice ka kl kc] : List Value).getD j default)) := by
                          have h9 : VCol 20 (New w24.heap.size w25) w25 ((o.1, o.2, Y6.val, Y7.val) : Col) (fun j => ([Value.string o.1, Value.string o.2, Value.string Y6.val, Value.int .u16 Y7.val.id, Value.string Y7.val.space, Value.string Y7.val.name, Value.slice na nl nc, Value.slice ka kl kc] : List Value).getD j default) := ⟨⟨rfl, HOS.out.1⟩, ⟨rfl, HOS.out.2⟩, ⟨rfl, HSZ6.out⟩, na, nl, nc, ka, kl, kc, rfl, rfl, rfl, rfl, rfl, HTY.out⟩
                          refine stays_col 20 _ _ w25 _ _ _ _ h9 (fun _ _ => rfl) (fun z hz hf => ?_) (Nat.le_trans HS25.out hBw.size) (fun z hz hf => ⟨Nat.lt_of_lt_of_le hz (Nat.le_trans HS25.out hBw.size), fun e => ?_, ?_⟩)
                          · exact (hBw.block z (Nat.lt_of_lt_of_le hz HS25.out)).trans (HK26.out.block z hz (fun e => by have := HS24.out; have := hf.1; omega))
                          · have := (HO26.out.lt z e).1.2; have := HS24.out; have := hf.1; omega
                          · have := HQC.out; have := HS24.out; have := hf.1; omega
                        have HFN : Hid ((fun z => q < z) (w26.alloc (.cells #[.string o.1, .string o.2, .string Y6.val, .int .u16 Y7.val.id, .string Y7.val.space, .string Y7.val.name, .slice na nl nc, .slice ka kl kc] 83)).heap.size) := by have := HQC.out; have := block_lt HC26.out; show q < _; simp; omega
                        obtain ⟨⟨y0, y1, y2, y3, y4, y5, y6, y7⟩, _⟩ := blk8 HC26.out
                        obtain ⟨⟨g0, g1, g2, g3, g4, g5⟩, k0, k1, k2, k3, k4, k5⟩ := blk6 HG26.out
                        have hlg26 := block_lt HG26.out
                        clear g0 g2 g3 g4 g5 k0 k2 k3 k4 k5
                        go_wp2_with (at_builtin; refine wpList_appendI rfl (.tmp 177) (.tmp 179) 33 rfl (stays_col 20) elem_cs rfl HON.out rfl HBN.out rfl ?c1 ((o.1, o.2, Y6.val, Y7.val) : Col) HXN.out HFN.out ?c2 ?c3 ?_)
                        case c1 => first | exact ⟨rfl, rfl, rfl, rfl, rfl, rfl, rfl, rfl⟩ | (intro u hu; simp at hu; rcases hu with rfl | rfl | rfl | rfl | rfl | rfl | rfl | rfl <;> rfl)
                        case c2 => rw [HLi.out]; unfold maxLen; omega
                        case c3 => rw [HLi.out]; omega
                        intro v4 w27 ho4 hK27 hv4
                        obtain ⟨xa4, xc4, hv4e⟩ := ho4.shape
                        have hlen4 : (acc ++ [((o.1, o.2, Y6.val, Y7.val) : Col)]).length = i + 1 := by rw [List.length_append, HLi.out]; rfl
                        have HL4 : Hid ((acc ++ [((o.1, o.2, Y6.val, Y7.val) : Col)]).length = i + 1) := hlen4
                        rw [hlen4] at hv4e
                        have HO27 : Hid (OwnI 83 8 (VCol 20) w27 (fun z => q < z) v4 (acc ++ [((o.1, o.2, Y6.val, Y7.val) : Col)])) := ho4
                        have hvq : ∀ z, (Value.slice xa i xc).ownBlock = some z → q < z := fun z e => (HO26.out.lt z e).1.1
                        have HG27 : Hid (w27.heap[g]? = some (.cells #[.int .i64 n, .slice xa i xc, .bool (bitX f 2), .int .i64 s.1, .string s.2, .slice none 0 0] 38 (0, 0))) := (hK27.block g (Nat.lt_of_lt_of_le hlg26 hBw.size) (fun e => by have := hvq g e; have := HGQ.out; omega)).trans ((hBw.block g hlg26).trans HG26.out)
                        have HZ27 : Hid (w27.heap[r]? = some (.cells #[.int .i64 0, .slice none 0 0, .bool false, .int .i64 0, .string ⟨#[]⟩, .slice none 0 0] 38 (0, 0))) := (hK27.block r (Nat.lt_of_lt_of_le (block_lt HZ26.out) hBw.size) (fun e => by have := hvq r e; have := HGQ.out; have := HGE.out; omega)).trans ((hBw.block r (block_lt HZ26.out)).trans HZ26.out)
                        have HA27 : Hid (w27.heap[q]? = some (.cells #[.string o.1, .string o.2, .string ⟨#[]⟩, .int .u16 0, .string ⟨#[]⟩, .string ⟨#[]⟩, .slice none 0 0, .slice none 0 0] 83 (0, 0))) := (hK27.block q (Nat.lt_of_lt_of_le (block_lt HA26.out) hBw.size) (fun e => by have := hvq q e; omega)).trans ((hBw.block q (block_lt HA26.out)).trans HA26.out)
                        have HB27 : Hid (Below w.heap.size w w27) := (HB26.out.trans (hBw.mono HB26.out.size)).trans (hK27.below (Nat.le_trans HB26.out.size hBw.size) (fun z _ e => by have := hvq z e; have := HGQ.out; have := HGE.out; have := HRE.out; omega))
                        subst hv4e
                        obtain ⟨⟨d0, d1, d2, d3, d4, d5⟩, e0, e1, e2, e3, e4, e5⟩ := blk6 HG27.out
                        have HG28 : Hid ((w27.setCell ⟨g, 1, none⟩ (.slice xa4 (i + 1) xc4)).heap[g]? = some (.cells #[.int .i64 n, .slice xa4 (i + 1) xc4, .bool (bitX f 2), .int .i64 s.1, .string s.2, .slice none 0 0] 38 (0, 0))) := blk_set HG27.out 1 _
                        have hK28 := one_kept w27 g 1 (.slice xa4 (i + 1) xc4)
                        have HZ28 : Hid ((w27.setCell ⟨g, 1, none⟩ (.slice xa4 (i + 1) xc4)).heap[r]? = some (.cells #[.int .i64 0, .slice none 0 0, .bool false, .int .i64 0, .string ⟨#[]⟩, .slice none 0 0] 38 (0, 0))) := (hK28.block r (block_lt HZ27.out) (by have := HGE.out; omega)).trans HZ27.out
                        have HA28 : Hid ((w27.setCell ⟨g, 1, none⟩ (.slice xa4 (i + 1) xc4)).heap[q]? = some (.cells #[.string o.1, .string o.2, .string ⟨#[]⟩, .int .u16 0, .string ⟨#[]⟩, .string ⟨#[]⟩, .slice none 0 0, .slice none 0 0] 83 (0, 0))) := (hK28.block q (block_lt HA27.out) (by have := HGQ.out; omega)).trans HA27.out
                        have HO28 : Hid (OwnI 83 8 (VCol 20) (w27.setCell ⟨g, 1, none⟩ (.slice xa4 (i + 1) xc4)) (fun z => q < z) (.slice xa4 (i + 1) xc4) (acc ++ [((o.1, o.2, Y6.val, Y7.val) : Col)])) := HO27.out.apart (stays_col 20) hK28 (fun z _ hz e => by have := HGQ.out; omega)
                        have HB28 : Hid (Below w.heap.size w (w27.setCell ⟨g, 1, none⟩ (.slice xa4 (i + 1) xc4))) := HB27.out.trans (hK28.below HB27.out.size (fun z _ e => by have := HGE.out; have := HRE.out; omega))
                        have HRZ : Hid (Reads X zs d (bindR (loopR (colR true o) (n - (i + 1))) fun l => pureR (([] : List Int), (((n : Int), (acc ++ [((o.1, o.2, Y6.val, Y7.val) : Col)]) ++ l, bitX f 2, s, []) : Tb))) ps7 id) := by rw [← HMI.out]; exact HRh.out
                        clear d0 d2 d3 d4 d5 e0 e2 e3 e4 e5 ho4 hK27 hv4 hlen4 hvq hBw hK28 y0 y1 y2 y3 y4 y5 y6 y7 g1 k1
                        go_wp2_with fail
                        go_roundw
                        case rel => exact ⟨i + 1, ps7, _, _, _, by omega, by go_num, rfl, HDD7, HL4, HRZ, HZ28, HG28, HA28, HO28, HB28⟩
                        case measure => simp [intOf]; omega
                  · obtain rfl : i = n := by omega
                    have hRa := HRi.out
                    rw [Nat.sub_self] at hRa
                    obtain ⟨x1, x2, x3⟩ := reads_pure (reads_bpure (show Reads X zs d (bindR (pureR ([] : List Col)) _) ps id from hRa))
                    replace x3 : X.val = ([], ((i : Int), acc, bitX f 2, s, [])) := x3.trans (by simp [pureR])
                    have HVE : Hid (i = acc.length) := HLi.out.symm
                    have HOV : Hid (OwnI 83 8 (VCol 20) w20 (fun z => q < z) (.slice xa i xc) acc) := HO20.out
                    clear hRa HRi
                    obtain ⟨wF, hwF, hF6, hKF⟩ := fill6 HZ20.out (.int .i64 i) (.slice xa i xc) (.bool (bitX f 2)) (.int .i64 s.1) (.string s.2) (.slice none 0 0)
                    have HWF : Hid _ := hwF
                    have HF6 : Hid _ := hF6
                    have HBF : Hid (Below w.heap.size w wF) := HB20.out.trans (hKF.below HB20.out.size (fun z _ e => by have := HRE.out; omega))
                    have HXE : Hid (X.err = 0) := x1
                    have HXP : Hid (place d X = ((ps : Nat) : Int)) := by show _ = _; rw [place_ok x1]; congr 1; omega
                    have HXD : Hid (X.err = 0 → d + X.done ≤ len) := fun _ => by have := HPi.out; omega
                    have HXV : Hid (X.val = ([], ((i : Int), acc, bitX f 2, s, []))) := x3
                    have HOF : Hid (OwnI 83 8 (VCol 20) wF (fun z => w.heap.size ≤ z) (.slice xa i xc) acc) := (HOV.out.apart (stays_col 20) hKF (fun z _ hf e => by have := HGQ.out; have := HGE.out; omega)).sub (stays_col 20) (fun z _ hf => by have := HGQ.out; have := HGE.out; have := HRE.out; omega)
                    obtain ⟨_, f0, f1, f2, f3, f4, f5⟩ := blk6 HZ20.out
                    obtain ⟨⟨g0, g1, g2, g3, g4, g5⟩, _⟩ := blk6 HG20.out
                    have hlr := block_lt HZ20.out
                    have hlg := block_lt HG20.out
                    clear hwF hF6 hKF x1 x2 x3
                    go_wp2_with fail
                    rw [HWF.out]
                    obtain ⟨⟨p0, p1, p2, p3, p4, p5⟩, _⟩ := blk6 HF6.out
                    exact bodyPost_ret (v := .tuple #[.agg #[.int .i64 i, .slice xa i xc, .bool (bitX f 2), .int .i64 s.1, .string s.2, .slice none 0 0], .slice none 0 0, .int .i64 ps, .int .i64 0]) (by simp [results, Tryd.results25, go_sem, p0, p1, p2, p3, p4, p5]) rfl
                      ⟨_, _, _, _, _, _, _, _, _, _, by rw [HXE.out, HXP.out], HBF, HXD.out, fun _ => ⟨by rw [HXV.out], by rw [HXV.out]; exact HVE.out, by rw [HXV.out], by rw [HXV.out], by rw [HXV.out], by rw [HXV.out]; rfl, by rw [HXV.out]; exact HOF.out, by rw [HXV.out]; exact ownI_nil _ _ _ _ _⟩⟩
            · have hg1 : (f % 2 == 1) = false := by simpa using hg
              have hg0 : (f % 2 == 0) = true := by simp; omega
              have hb1 : bitX f 1 = false := by rw [HBT.out.2.2]; simpa using hg
              have hR8 := HR7.out
              rw [hb1] at hR8
              have hR9 := reads_bpure (show Reads X zs d (bindR (pureR (ByteArray.empty, ByteArray.empty)) _) pos3 id from hR8)
              have HR9 : Hid (Reads X zs d (bindR (loopR (colR false (ByteArray.empty, ByteArray.empty)) n) fun l => pureR (([] : List Int), (((n : Int), ([] : List Col) ++ l, bitX f 2, s, []) : Tb))) pos3 id) := hR9
              have HOSZ : Hid (ByteArray.empty.size ≤ maxLen ∧ ByteArray.empty.size ≤ maxLen) := ⟨Nat.zero_le _, Nat.zero_le _⟩
              clear hR8 hR9 HR7
              obtain ⟨o, ho⟩ : ∃ o : ByteArray × ByteArray, o = (ByteArray.empty, ByteArray.empty) := ⟨_, rfl⟩
              have HAo : Hid (w8.heap[q]? = some (.cells #[.string o.1, .string o.2, .string ⟨#[]⟩, .int .u16 0, .string ⟨#[]⟩, .string ⟨#[]⟩, .slice none 0 0, .slice none 0 0] 83 (0, 0))) := by rw [ho]; exact HA8.out
              have HRo : Hid (Reads X zs d (bindR (loopR (colR false o) n) fun l => pureR (([] : List Int), (((n : Int), ([] : List Col) ++ l, bitX f 2, s, []) : Tb))) pos3 id) := by rw [ho]; exact HR9.out
              have HOS : Hid (o.1.size ≤ maxLen ∧ o.2.size ≤ maxLen) := by rw [ho]; exact HOSZ.out
              clear ho HOSZ HA8
              go_wp2_with fail
              go_loopw [13, 21] (fun pv t wr => LpR w r g q X zs d len false (bitX f 2) o s n pv t wr) (fun _ t _ => n - (intOf t).toNat)
              case atStart => exact ⟨0, pos3, none, 0, [], by omega, rfl, rfl, HP3, rfl, HRo, HZ8, HG8, HAo, ownI_nil _ _ _ _ _, HB8⟩
              case round =>
                obtain ⟨i, ps, xa, xc, acc, hi, rfl, rfl, HPi, HLi, HRi, HZ20, HG20, HA20, HO20, HB20⟩ := hrel
                obtain ⟨w20, hw20⟩ : ∃ x, x = wr := ⟨_, rfl⟩
                subst hw20
                by_cases hlt : i < n
                · obtain ⟨m, hm⟩ : ∃ m, n - i = m + 1 := ⟨n - i - 1, by omega⟩
                  have hRa := HRi.out
                  rw [hm] at hRa
                  have hRb := reads_assoc (show Reads X zs d (bindR (bindR (optR (!false) o ownerR) _) _) ps id from reads_loop hRa)
                  obtain ⟨c, hc⟩ : ∃ c, c = w20.heap.size := ⟨_, rfl⟩
                  have HCE : Hid (w20.heap.size = c) := hc.symm
                  have HQC : Hid (q < c) := by show q < c; rw [hc]; exact block_lt HA20.out
                  obtain ⟨w21, hw21⟩ : ∃ w21, w21 = w20.alloc (.cells #[.string o.1, .string o.2, .string ⟨#[]⟩, .int .u16 0, .string ⟨#[]⟩, .string ⟨#[]⟩, .slice none 0 0, .slice none 0 0] 83) := ⟨_, rfl⟩
                  have HW21 : Hid (w20.alloc (.cells #[.string o.1, .string o.2, .string ⟨#[]⟩, .int .u16 0, .string ⟨#[]⟩, .string ⟨#[]⟩, .slice none 0 0, .slice none 0 0] 83) = w21) := hw21.symm
                  have HC21 : Hid (w21.heap[c]? = some (.cells #[.string o.1, .string o.2, .string ⟨#[]⟩, .int .u16 0, .string ⟨#[]⟩, .string ⟨#[]⟩, .slice none 0 0, .slice none 0 0] 83 (0, 0))) := by rw [hw21, hc]; exact heap_alloc_new w20 _
                  have hb21 : Below w20.heap.size w20 w21 := by rw [hw21]; exact below_one _ _
                  have HO21 : Hid (OwnI 83 8 (VCol 20) w21 (fun z => q < z ∧ z < c) (.slice xa i xc) acc) := (HO20.out.sub (stays_col 20) (fun z hz hf => ⟨hf, by rw [hc]; exact hz⟩)).old (stays_col 20) hb21
                  have HZ21 : Hid (w21.heap[r]? = some (.cells #[.int .i64 0, .slice none 0 0, .bool false, .int .i64 0, .string ⟨#[]⟩, .slice none 0 0] 38 (0, 0))) := (hb21.block r (block_lt HZ20.out)).trans HZ20.out
                  have HG21 : Hid (w21.heap[g]? = some (.cells #[.int .i64 n, .slice xa i xc, .bool (bitX f 2), .int .i64 s.1, .string s.2, .slice none 0 0] 38 (0, 0))) := (hb21.block g (block_lt HG20.out)).trans HG20.out
                  have HA21 : Hid (w21.heap[q]? = some (.cells #[.string o.1, .string o.2, .string ⟨#[]⟩, .int .u16 0, .string ⟨#[]⟩, .string ⟨#[]⟩, .slice none 0 0, .slice none 0 0] 83 (0, 0))) := (hb21.block q (block_lt HA20.out)).trans HA20.out
                  have HB21 : Hid (Below w.heap.size w w21) := HB20.out.trans (hb21.mono HB20.out.size)
                  have H21 : Hid (IsB w21 a len cap zs) := HI.out.old HB21.out
                  obtain ⟨⟨y0, y1, y2, y3, y4, y5, y6, y7⟩, _⟩ := blk8 HA20.out
                  clear hRa hc hw21 hb21 HRi HZ20 HG20 HB20 HO20
                  go_upto_if 140 with fail
                  rw [HW21.out]
                  (try rw [HCE.out])
                  clear HW21 y0 y1 y2 y3 y4 y5 y6 y7 HA20
                  have HRb : Hid (Reads X zs d (bindR ownerR _) ps id) := hRb
                  obtain ⟨Y5, hY5⟩ : ∃ Y5, Y5 = ownerR (zs.drop ps) := ⟨_, rfl⟩
                  have HY5 : Hid (Y5 = ownerR (zs.drop ps)) := hY5
                  clear hRb hY5
                  go_wp2_with fail
                  refine (names_at H21.out ps HPi.out _ rfl HY5.out).mono ?_
                  rintro e w22 ⟨s5, t5, rfl, HV5, HD5, hb22⟩
                  have HZ22 : Hid (w22.heap[r]? = some (.cells #[.int .i64 0, .slice none 0 0, .bool false, .int .i64 0, .string ⟨#[]⟩, .slice none 0 0] 38 (0, 0))) := (hb22.block r (block_lt HZ21.out)).trans HZ21.out
                  have HG22 : Hid (w22.heap[g]? = some (.cells #[.int .i64 n, .slice xa i xc, .bool (bitX f 2), .int .i64 s.1, .string s.2, .slice none 0 0] 38 (0, 0))) := (hb22.block g (block_lt HG21.out)).trans HG21.out
                  have HA22 : Hid (w22.heap[q]? = some (.cells #[.string o.1, .string o.2, .string ⟨#[]⟩, .int .u16 0, .string ⟨#[]⟩, .string ⟨#[]⟩, .slice none 0 0, .slice none 0 0] 83 (0, 0))) := (hb22.block q (block_lt HA21.out)).trans HA21.out
                  have HC22 : Hid (w22.heap[c]? = some (.cells #[.string o.1, .string o.2, .string ⟨#[]⟩, .int .u16 0, .string ⟨#[]⟩, .string ⟨#[]⟩, .slice none 0 0, .slice none 0 0] 83 (0, 0))) := (hb22.block c (block_lt HC21.out)).trans HC21.out
                  have HB22 : Hid (Below w.heap.size w w22) := HB21.out.trans (hb22.mono HB21.out.size)
                  have H22 : Hid (IsB w22 a len cap zs) := HI.out.old HB22.out
                  have HO22 : Hid (OwnI 83 8 (VCol 20) w22 (fun z => q < z ∧ z < c) (.slice xa i xc) acc) := HO21.out.old (stays_col 20) hb22
                  have hcs22 : w20.heap.size ≤ w22.heap.size := by have := HCE.out; have := block_lt HC22.out; omega
                  obtain ⟨w23, hw23, hC23, hK23⟩ := fill8 HC22.out (.string s5) (.string t5) (.string ⟨#[]⟩) (.int .u16 0) (.string ⟨#[]⟩) (.string ⟨#[]⟩) (.slice none 0 0) (.slice none 0 0)
                  have HW23 : Hid _ := hw23
                  have HC23 : Hid (w23.heap[c]? = some (.cells #[.string s5, .string t5, .string ⟨#[]⟩, .int .u16 0, .string ⟨#[]⟩, .string ⟨#[]⟩, .slice none 0 0, .slice none 0 0] 83 (0, 0))) := hC23
                  have HO23 : Hid (OwnI 83 8 (VCol 20) w23 (fun z => q < z ∧ z < c) (.slice xa i xc) acc) := HO22.out.apart (stays_col 20) hK23 (fun z _ hf e => by omega)
                  have HZ23 : Hid (w23.heap[r]? = some (.cells #[.int .i64 0, .slice none 0 0, .bool false, .int .i64 0, .string ⟨#[]⟩, .slice none 0 0] 38 (0, 0))) := (hK23.block r (block_lt HZ22.out) (by have := HQC.out; have := HGQ.out; have := HGE.out; have := HRE.out; omega)).trans HZ22.out
                  have HG23 : Hid (w23.heap[g]? = some (.cells #[.int .i64 n, .slice xa i xc, .bool (bitX f 2), .int .i64 s.1, .string s.2, .slice none 0 0] 38 (0, 0))) := (hK23.block g (block_lt HG22.out) (by have := HQC.out; have := HGQ.out; have := HGE.out; have := HRE.out; omega)).trans HG22.out
                  have HA23 : Hid (w23.heap[q]? = some (.cells #[.string o.1, .string o.2, .string ⟨#[]⟩, .int .u16 0, .string ⟨#[]⟩, .string ⟨#[]⟩, .slice none 0 0, .slice none 0 0] 83 (0, 0))) := (hK23.block q (block_lt HA22.out) (by have := HQC.out; have := HGQ.out; have := HGE.out; have := HRE.out; omega)).trans HA22.out
                  have HB23 : Hid (Below w.heap.size w w23) := HB22.out.trans (hK23.below HB22.out.size (fun z _ e => by have := HQC.out; have := HGQ.out; have := HGE.out; have := HRE.out; omega))
                  have H23 : Hid (IsB w23 a len cap zs) := HI.out.old HB23.out
                  obtain ⟨_, z0, z1, z2, z3, z4, z5, z6, z7⟩ := blk8 HC22.out
                  clear hb22 hw23 hC23 hK23 HB21 HZ21 HG21 HA21 H21 HC21 HO21 HO22 HA22 H22 HB22 HZ22 HG22
                  by_cases e5 : Y5.err = 0
                  case neg =>
                    have hx : X.err = Y5.err := (reads_err HRb.out (by rw [← HY5.out]; exact e5)).trans (by rw [← HY5.out])
                    obtain ⟨ce, hce⟩ : ∃ ce, ce = Y5.err := ⟨_, rfl⟩
                    have hce0 : (ce != 0) = true := by rw [hce]; simpa using e5
                    have HCEE : Hid (Y5.err = ce) := hce.symm
                    have HXE : Hid (X.err = ce) := hx.trans hce.symm
                    have HXN : Hid (X.err ≠ 0) := by show X.err ≠ 0; rw [hx]; exact e5
                    have HPX : Hid (place d X = 0) := place_err HXN.out
                    have HPY : Hid (place ps Y5 = 0) := place_err e5
                    clear hx hce
                    rw [HCEE.out, HPY.out]
                    go_upto_if 149 with fail
                    rw [HW23.out]
                    clear e5 z0 z1 z2 z3 z4 z5 z6 z7
                    obtain ⟨wF, hwF, hF6, hKF⟩ := fill6 HZ23.out (.int .i64 n) (.slice xa i xc) (.bool (bitX f 2)) (.int .i64 s.1) (.string s.2) (.slice none 0 0)
                    have HWF : Hid _ := hwF
                    have HF6 : Hid _ := hF6
                    have HBF : Hid (Below w.heap.size w wF) := HB23.out.trans (hKF.below HB23.out.size (fun z _ e => by have := HRE.out; omega))
                    obtain ⟨_, f0, f1, f2, f3, f4, f5⟩ := blk6 HZ23.out
                    obtain ⟨⟨g0, g1, g2, g3, g4, g5⟩, _⟩ := blk6 HG23.out
                    have hlr := block_lt HZ23.out
                    have hlg := block_lt HG23.out
                    clear hwF hF6 hKF
                    go_wp2_with fail
                    rw [HWF.out]
                    obtain ⟨⟨p0, p1, p2, p3, p4, p5⟩, _⟩ := blk6 HF6.out
                    exact bodyPost_ret (v := .tuple #[.agg #[.int .i64 n, .slice xa i xc, .bool (bitX f 2), .int .i64 s.1, .string s.2, .slice none 0 0], .slice none 0 0, .int .i64 0, .int .i64 ce]) (by simp [results, Tryd.results25, go_sem, p0, p1, p2, p3, p4, p5]) rfl
                      ⟨_, _, _, _, _, _, _, _, _, _, by rw [HXE.out, HPX.out], HBF, fun e => absurd e HXN.out, fun e => absurd e HXN.out⟩
                  case pos =>
                    have hRc := reads_ok HRb.out (by rw [← HY5.out]; exact e5)
                    rw [← HY5.out, HV5.out e5] at hRc
                    have hsz5 := owner_sz HY5.out e5 (HV5.out e5)
                    rw [List.length_drop, HZL.out] at hsz5
                    have HSZ5 : Hid (s5.size ≤ maxLen ∧ t5.size ≤ maxLen) := ⟨by unfold maxLen; omega, by unfold maxLen; omega⟩
                    have HP5 : Hid (place ps Y5 = ((ps + Y5.done : Nat) : Int)) := place_ok e5
                    have HE5 : Hid (Y5.err = 0) := e5
                    have HDD5 : Hid (ps + Y5.done ≤ len) := HD5.out e5
                    go_upto_if 149 with fail
                    rw [HW23.out]
                    (try rw [HE5.out])
                    rw [HP5.out]
                    obtain ⟨ps5, hps5⟩ : ∃ ps5, ps5 = ps + Y5.done := ⟨_, rfl⟩
                    rw [← hps5] at hRc HDD5 ⊢
                    clear z0 z1 z2 z3 z4 z5 z6 z7 hps5 hsz5 e5 HE5 HP5 HD5 HV5 HY5 HRb HW23 HC22
                    have HRd : Hid (Reads X zs d (bindR textR _) ps5 id) := reads_assoc hRc
                    obtain ⟨Y6, hY6⟩ : ∃ Y6, Y6 = textR (zs.drop ps5) := ⟨_, rfl⟩
                    have HY6 : Hid (Y6 = textR (zs.drop ps5)) := hY6
                    obtain ⟨w24, hw24⟩ : ∃ w24, w24 = w23.setCell ⟨c, 2, none⟩ (.string Y6.val) := ⟨_, rfl⟩
                    have HW24 : Hid (w23.setCell ⟨c, 2, none⟩ (.string Y6.val) = w24) := hw24.symm
                    have hK24 : Kept (fun k => k = c) w23 w24 := by rw [hw24]; exact one_kept _ c 2 _
                    have HC24 : Hid (w24.heap[c]? = some (.cells #[.string s5, .string t5, .string Y6.val, .int .u16 0, .string ⟨#[]⟩, .string ⟨#[]⟩, .slice none 0 0, .slice none 0 0] 83 (0, 0))) := by rw [hw24]; exact blk_set HC23.out 2 _
                    have HO24 : Hid (OwnI 83 8 (VCol 20) w24 (fun z => q < z ∧ z < c) (.slice xa i xc) acc) := HO23.out.apart (stays_col 20) hK24 (fun z _ hf e => by omega)
                    have HZ24 : Hid (w24.heap[r]? = some (.cells #[.int .i64 0, .slice none 0 0, .bool false, .int .i64 0, .string ⟨#[]⟩, .slice none 0 0] 38 (0, 0))) := (hK24.block r (block_lt HZ23.out) (by have := HQC.out; have := HGQ.out; have := HGE.out; have := HRE.out; omega)).trans HZ23.out
                    have HG24 : Hid (w24.heap[g]? = some (.cells #[.int .i64 n, .slice xa i xc, .bool (bitX f 2), .int .i64 s.1, .string s.2, .slice none 0 0] 38 (0, 0))) := (hK24.block g (block_lt HG23.out) (by have := HQC.out; have := HGQ.out; have := HGE.out; have := HRE.out; omega)).trans HG23.out
                    have HA24 : Hid (w24.heap[q]? = some (.cells #[.string o.1, .string o.2, .string ⟨#[]⟩, .int .u16 0, .string ⟨#[]⟩, .string ⟨#[]⟩, .slice none 0 0, .slice none 0 0] 83 (0, 0))) := (hK24.block q (block_lt HA23.out) (by have := HQC.out; have := HGQ.out; have := HGE.out; have := HRE.out; omega)).trans HA23.out
                    have HB24 : Hid (Below w.heap.size w w24) := HB23.out.trans (hK24.below HB23.out.size (fun z _ e => by have := HQC.out; have := HGQ.out; have := HGE.out; have := HRE.out; omega))
                    have H24 : Hid (IsB w24 a len cap zs) := HI.out.old HB24.out
                    obtain ⟨_, z0, z1, z2, z3, z4, z5, z6, z7⟩ := blk8 HC23.out
                    clear hRc hY6 hw24 hK24 HB23 HZ23 HG23 HA23 HO23
                    go_wp2_with fail
                    refine (rgetText_at H23.out ps5 HDD5.out _ rfl HY6.out).mono ?_
                    rintro e w9x ⟨rfl, rfl⟩
                    go_upto_if 161 with fail
                    rw [HW24.out]
                    clear HW24 z0 z1 z2 z3 z4 z5 z6 z7 HC23 H23
                    by_cases e6 : Y6.err = 0
                    case neg =>
                      have hx : X.err = Y6.err := (reads_err HRd.out (by rw [← HY6.out]; exact e6)).trans (by rw [← HY6.out])
                      obtain ⟨ce, hce⟩ : ∃ ce, ce = Y6.err := ⟨_, rfl⟩
                      have hce0 : (ce != 0) = true := by rw [hce]; simpa using e6
                      have HCEE : Hid (Y6.err = ce) := hce.symm
                      have HXE : Hid (X.err = ce) := hx.trans hce.symm
                      have HXN : Hid (X.err ≠ 0) := by show X.err ≠ 0; rw [hx]; exact e6
                      have HPX : Hid (place d X = 0) := place_err HXN.out
                      have HPY : Hid (place ps5 Y6 = 0) := place_err e6
                      clear hx hce
                      rw [HCEE.out, HPY.out]
                      clear e6
                      obtain ⟨wF, hwF, hF6, hKF⟩ := fill6 HZ24.out (.int .i64 n) (.slice xa i xc) (.bool (bitX f 2)) (.int .i64 s.1) (.string s.2) (.slice none 0 0)
                      have HWF : Hid _ := hwF
                      have HF6 : Hid _ := hF6
                      have HBF : Hid (Below w.heap.size w wF) := HB24.out.trans (hKF.below HB24.out.size (fun z _ e => by have := HRE.out; omega))
                      obtain ⟨_, f0, f1, f2, f3, f4, f5⟩ := blk6 HZ24.out
                      obtain ⟨⟨g0, g1, g2, g3, g4, g5⟩, _⟩ := blk6 HG24.out
                      have hlr := block_lt HZ24.out
                      have hlg := block_lt HG24.out
                      clear hwF hF6 hKF
                      go_wp2_with fail
                      rw [HWF.out]
                      obtain ⟨⟨p0, p1, p2, p3, p4, p5⟩, _⟩ := blk6 HF6.out
                      exact bodyPost_ret (v := .tuple #[.agg #[.int .i64 n, .slice xa i xc, .bool (bitX f 2), .int .i64 s.1, .string s.2, .slice none 0 0], .slice none 0 0, .int .i64 0, .int .i64 ce]) (by simp [results, Tryd.results25, go_sem, p0, p1, p2, p3, p4, p5]) rfl
                        ⟨_, _, _, _, _, _, _, _, _, _, by rw [HXE.out, HPX.out], HBF, fun e => absurd e HXN.out, fun e => absurd e HXN.out⟩
                    case pos =>
                      have hd6 := textR_done e6 HY6.out
                      rw [List.length_drop, HZL.out] at hd6
                      have hsz6 := text_size (zs.drop ps5)
                      rw [← HY6.out, List.length_drop, HZL.out] at hsz6
                      have hRe := reads_ok HRd.out (by rw [← HY6.out]; exact e6)
                      rw [← HY6.out] at hRe
                      have HP6 : Hid (place ps5 Y6 = ((ps5 + Y6.done : Nat) : Int)) := place_ok e6
                      have HE6 : Hid (Y6.err = 0) := e6
                      rw [HE6.out, HP6.out]
                      obtain ⟨ps6, hps6⟩ : ∃ ps6, ps6 = ps5 + Y6.done := ⟨_, rfl⟩
                      have HPS6 : Hid (ps6 ≤ len) := by have := HDD5.out; show ps6 ≤ len; omega
                      rw [← hps6] at hRe ⊢
                      have HRf : Hid (Reads X zs d (bindR (tyR 20) _) ps6 id) := reads_assoc hRe
                      have HSZ6 : Hid (Y6.val.size ≤ maxLen) := by show _ ≤ _; unfold maxLen; omega
                      obtain ⟨Y7, hY7⟩ : ∃ Y7, Y7 = tyR 20 (zs.drop ps6) := ⟨_, rfl⟩
                      have HY7 : Hid (Y7 = tyR 20 (zs.drop ps6)) := hY7
                      clear hRe hps6 hd6 hsz6 hY7 e6 HE6 HP6 HY6 HRd
                      go_wp2_with fail
                      refine (getsRef 20 (Nat.le_refl _) w24 a len cap zs H24.out (by omega) ps6 HPS6.out Y7 HY7.out _ _ rfl (by decide)).mono ?_
                      rintro e w25 ⟨na, nl, nc, ka, kl, kc, rfl, HTY, HD7, hb25⟩
                      have HZ25 : Hid (w25.heap[r]? = some (.cells #[.int .i64 0, .slice none 0 0, .bool false, .int .i64 0, .string ⟨#[]⟩, .slice none 0 0] 38 (0, 0))) := (hb25.block r (block_lt HZ24.out)).trans HZ24.out
                      have HG25 : Hid (w25.heap[g]? = some (.cells #[.int .i64 n, .slice xa i xc, .bool (bitX f 2), .int .i64 s.1, .string s.2, .slice none 0 0] 38 (0, 0))) := (hb25.block g (block_lt HG24.out)).trans HG24.out
                      have HA25 : Hid (w25.heap[q]? = some (.cells #[.string o.1, .string o.2, .string ⟨#[]⟩, .int .u16 0, .string ⟨#[]⟩, .string ⟨#[]⟩, .slice none 0 0, .slice none 0 0] 83 (0, 0))) := (hb25.block q (block_lt HA24.out)).trans HA24.out
                      have HC25 : Hid (w25.heap[c]? = some (.cells #[.string s5, .string t5, .string Y6.val, .int .u16 0, .string ⟨#[]⟩, .string ⟨#[]⟩, .slice none 0 0, .slice none 0 0] 83 (0, 0))) := (hb25.block c (block_lt HC24.out)).trans HC24.out
                      have HB25 : Hid (Below w.heap.size w w25) := HB24.out.trans (hb25.mono HB24.out.size)
                      have H25 : Hid (IsB w25 a len cap zs) := HI.out.old HB25.out
                      have HO25 : Hid (OwnI 83 8 (VCol 20) w25 (fun z => q < z ∧ z < c) (.slice xa i xc) acc) := HO24.out.old (stays_col 20) hb25
                      have HS24 : Hid (c < w24.heap.size) := block_lt HC24.out
                      obtain ⟨w26, hw26, hC26, hK26⟩ := fill5 HC25.out (.int .u16 Y7.val.id) (.string Y7.val.space) (.string Y7.val.name) (.slice na nl nc) (.slice ka kl kc)
                      have HW26 : Hid _ := hw26
                      have HC26 : Hid (w26.heap[c]? = some (.cells #[.string s5, .string t5, .string Y6.val, .int .u16 Y7.val.id, .string Y7.val.space, .string Y7.val.name, .slice na nl nc, .slice ka kl kc] 83 (0, 0))) := hC26
                      have HK26 : Hid (Kept (fun k => k = c) w25 w26) := hK26
                      have HO26 : Hid (OwnI 83 8 (VCol 20) w26 (fun z => q < z ∧ z < c) (.slice xa i xc) acc) := HO25.out.apart (stays_col 20) hK26 (fun z _ hf e => by omega)
                      have HZ26 : Hid (w26.heap[r]? = some (.cells #[.int .i64 0, .slice none 0 0, .bool false, .int .i64 0, .string ⟨#[]⟩, .slice none 0 0] 38 (0, 0))) := (hK26.block r (block_lt HZ25.out) (by have := HQC.out; have := HGQ.out; have := HGE.out; have := HRE.out; omega)).trans HZ25.out
                      have HG26 : Hid (w26.heap[g]? = some (.cells #[.int .i64 n, .slice xa i xc, .bool (bitX f 2), .int .i64 s.1, .string s.2, .slice none 0 0] 38 (0, 0))) := (hK26.block g (block_lt HG25.out) (by have := HQC.out; have := HGQ.out; have := HGE.out; have := HRE.out; omega)).trans HG25.out
                      have HA26 : Hid (w26.heap[q]? = some (.cells #[.string o.1, .string o.2, .string ⟨#[]⟩, .int .u16 0, .string ⟨#[]⟩, .string ⟨#[]⟩, .slice none 0 0, .slice none 0 0] 83 (0, 0))) := (hK26.block q (block_lt HA25.out) (by have := HQC.out; have := HGQ.out; have := HGE.out; have := HRE.out; omega)).trans HA25.out
                      have HB26 : Hid (Below w.heap.size w w26) := HB25.out.trans (hK26.below HB25.out.size (fun z _ e => by have := HQC.out; have := HGQ.out; have := HGE.out; have := HRE.out; omega))
                      have H26 : Hid (IsB w26 a len cap zs) := HI.out.old HB26.out
                      obtain ⟨_, z0, z1, z2, z3, z4, z5, z6, z7⟩ := blk8 HC25.out
                      clear hb25 hw26 hC26 hK26 HB24 HZ24 HG24 HA24 H24 HC24 HO24 HO25 HA25 H25 HB25 HZ25 HG25
                      by_cases e7 : Y7.err = 0
                      case neg =>
                        have hx : X.err = Y7.err := (reads_err HRf.out (by rw [← HY7.out]; exact e7)).trans (by rw [← HY7.out])
                        obtain ⟨ce, hce⟩ : ∃ ce, ce = Y7.err := ⟨_, rfl⟩
                        have hce0 : (ce != 0) = true := by rw [hce]; simpa using e7
                        have HCEE : Hid (Y7.err = ce) := hce.symm
                        have HXE : Hid (X.err = ce) := hx.trans hce.symm
                        have HXN : Hid (X.err ≠ 0) := by show X.err ≠ 0; rw [hx]; exact e7
                        have HPX : Hid (place d X = 0) := place_err HXN.out
                        have HPY : Hid (place ps6 Y7 = 0) := place_err e7
                        clear hx hce
                        rw [HCEE.out, HPY.out]
                        go_upto_if 173 with fail
                        rw [HW26.out]
                        clear e7 z0 z1 z2 z3 z4 z5 z6 z7
                        obtain ⟨wF, hwF, hF6, hKF⟩ := fill6 HZ26.out (.int .i64 n) (.slice xa i xc) (.bool (bitX f 2)) (.int .i64 s.1) (.string s.2) (.slice none 0 0)
                        have HWF : Hid _ := hwF
                        have HF6 : Hid _ := hF6
                        have HBF : Hid (Below w.heap.size w wF) := HB26.out.trans (hKF.below HB26.out.size (fun z _ e => by have := HRE.out; omega))
                        obtain ⟨_, f0, f1, f2, f3, f4, f5⟩ := blk6 HZ26.out
                        obtain ⟨⟨g0, g1, g2, g3, g4, g5⟩, _⟩ := blk6 HG26.out
                        have hlr := block_lt HZ26.out
                        have hlg := block_lt HG26.out
                        clear hwF hF6 hKF
                        go_wp2_with fail
                        rw [HWF.out]
                        obtain ⟨⟨p0, p1, p2, p3, p4, p5⟩, _⟩ := blk6 HF6.out
                        exact bodyPost_ret (v := .tuple #[.agg #[.int .i64 n, .slice xa i xc, .bool (bitX f 2), .int .i64 s.1, .string s.2, .slice none 0 0], .slice none 0 0, .int .i64 0, .int .i64 ce]) (by simp [results, Tryd.results25, go_sem, p0, p1, p2, p3, p4, p5]) rfl
                          ⟨_, _, _, _, _, _, _, _, _, _, by rw [HXE.out, HPX.out], HBF, fun e => absurd e HXN.out, fun e => absurd e HXN.out⟩
                      case pos =>
                        have hRg := reads_bpure (show Reads X zs d (bindR (pureR ((s5, t5, Y6.val, Y7.val) : Col)) _) (ps6 + Y7.done) id from (by have h9 := reads_ok HRf.out (by rw [← HY7.out]; exact e7); rw [← HY7.out] at h9; exact h9))
                        have hF9 : ∀ l : List Col, acc ++ ((s5, t5, Y6.val, Y7.val) : Col) :: l = (acc ++ [((s5, t5, Y6.val, Y7.val) : Col)]) ++ l := fun l => by simp
                        have HRh : Hid (Reads X zs d (bindR (loopR (colR false o) m) fun l => pureR (([] : List Int), (((n : Int), (acc ++ [((s5, t5, Y6.val, Y7.val) : Col)]) ++ l, bitX f 2, s, []) : Tb))) (ps6 + Y7.done) id) := by
                          show Reads _ _ _ _ _ _
                          simp only [← hF9]
                          exact hRg
                        have HP7 : Hid (place ps6 Y7 = ((ps6 + Y7.done : Nat) : Int)) := place_ok e7
                        have HE7 : Hid (Y7.err = 0) := e7
                        have HDD7 : Hid (ps6 + Y7.done ≤ len) := HD7.out e7
                        go_upto_if 173 with fail
                        rw [HW26.out]
                        (try rw [HE7.out])
                        rw [HP7.out]
                        obtain ⟨ps7, hps7⟩ : ∃ ps7, ps7 = ps6 + Y7.done := ⟨_, rfl⟩
                        rw [← hps7] at HRh HDD7 ⊢
                        have HMI : Hid (m = n - (i + 1)) := by show _ = _; omega
                        clear hRg hF9 hps7 e7 HE7 HP7 HD7 HY7 HRf HW26 z0 z1 z2 z3 z4 z5 z6 z7
                        have hBw : Below w26.heap.size w26 (w26.alloc (.cells #[.string s5, .string t5, .string Y6.val, .int .u16 Y7.val.id, .string Y7.val.space, .string Y7.val.name, .slice na nl nc, .slice ka kl kc] 83)) := below_one _ _
                        have HBN : Hid ((w26.alloc (.cells #[.string s5, .string t5, .string Y6.val, .int .u16 Y7.val.id, .string Y7.val.space, .string Y7.val.name, .slice na nl nc, .slice ka kl kc] 83)).heap[w26.heap.size]? = some (.cells [Value.string s5, Value.string t5, Value.string Y6.val, Value.int .u16 Y7.val.id, Value.string Y7.val.space, Value.string Y7.val.name, Value.slice na nl nc, Value.slice ka kl kc].toArray 83 (0, 0))) := heap_alloc_new w26 _
                        have HON : Hid (OwnI 83 8 (VCol 20) (w26.alloc (.cells #[.string s5, .string t5, .string Y6.val, .int .u16 Y7.val.id, .string Y7.val.space, .string Y7.val.name, .slice na nl nc, .slice ka kl kc] 83)) (fun z => q < z) (.slice xa i xc) acc) := (HO26.out.old (stays_col 20) hBw).sub (stays_col 20) (fun z _ hf => hf.1)
                        have HS25 : Hid (w25.heap.size ≤ w26.heap.size) := HK26.out.size
                        have HXN : Hid (VCol 20 (fun z => z < (w26.alloc (.cells #[.string s5, .string t5, .string Y6.val, .int .u16 Y7.val.id, .string Y7.val.space, .string Y7.val.name, .slice na nl nc, .slice ka kl kc] 83)).heap.size ∧ (Value.slice xa i xc).ownBlock ≠ some z ∧ q < z) (w26.alloc (.cells #[.string s5, .string t5, .string Y6.val, .int .u16 Y7.val.id, .string Y7.val.space, .string Y7.val.name, .slice na nl nc, .slice ka kl kc] 83)) ((s5, t5, Y6.val, Y7.val) : Col) (fun j => ([Value.string s5, Value.string t5, Value.string Y6.val, Value.int .u16 Y7.val.id, Value.string Y7.val.space, Value.string Y7.val.name, Value.slice na nl nc, Value.slice ka kl kc] : List Value).getD j default)) := by
                          have h9 : VCol 20 (New w24.heap.size w25) w25 ((s5, t5, Y6.val, Y7.val) : Col) (fun j => ([Value.string s5, Value.string t5, Value.string Y6.val, Value.int .u16 Y7.val.id, Value.string Y7.val.space, Value.string Y7.val.name, Value.slice na nl nc, Value.slice ka kl kc] : List Value).getD j default) := ⟨⟨rfl, HSZ5.out.1⟩, ⟨rfl, HSZ5.out.2⟩, ⟨rfl, HSZ6.out⟩, na, nl, nc, ka, kl, kc, rfl, rfl, rfl, rfl, rfl, HTY.out⟩
                          refine stays_col 20 _ _ w25 _ _ _ _ h9 (fun _ _ => rfl) (fun z hz hf => ?_) (Nat.le_trans HS25.out hBw.size) (fun z hz hf => ⟨Nat.lt_of_lt_of_le hz (Nat.le_trans HS25.out hBw.size), fun e => ?_, ?_⟩)
                          · exact (hBw.block z (Nat.lt_of_lt_of_le hz HS25.out)).trans (HK26.out.block z hz (fun e => by have := HS24.out; have := hf.1; omega))
                          · have := (HO26.out.lt z e).1.2; have := HS24.out; have := hf.1; omega
                          · have := HQC.out; have := HS24.out; have := hf.1; omega
                        have HFN : Hid ((fun z => q < z) (w26.alloc (.cells #[.string s5, .string t5, .string Y6.val, .int .u16 Y7.val.id, .string Y7.val.space, .string Y7.val.name, .slice na nl nc, .slice ka kl kc] 83)).heap.size) := by have := HQC.out; have := block_lt HC26.out; show q < _; simp; omega
                        obtain ⟨⟨y0, y1, y2, y3, y4, y5, y6, y7⟩, _⟩ := blk8 HC26.out
                        obtain ⟨⟨g0, g1, g2, g3, g4, g5⟩, k0, k1, k2, k3, k4, k5⟩ := blk6 HG26.out
                        have hlg26 := block_lt HG26.out
                        clear g0 g2 g3 g4 g5 k0 k2 k3 k4 k5
                        go_wp2_with (at_builtin; refine wpList_appendI rfl (.tmp 177) (.tmp 179) 33 rfl (stays_col 20) elem_cs rfl HON.out rfl HBN.out rfl ?c1 ((s5, t5, Y6.val, Y7.val) : Col) HXN.out HFN.out ?c2 ?c3 ?_)
                        case c1 => first | exact ⟨rfl, rfl, rfl, rfl, rfl, rfl, rfl, rfl⟩ | (intro u hu; simp at hu; rcases hu with rfl | rfl | rfl | rfl | rfl | rfl | rfl | rfl <;> rfl)
                        case c2 => rw [HLi.out]; unfold maxLen; omega
                        case c3 => rw [HLi.out]; omega
                        intro v4 w27 ho4 hK27 hv4
                        obtain ⟨xa4, xc4, hv4e⟩ := ho4.shape
                        have hlen4 : (acc ++ [((s5, t5, Y6.val, Y7.val) : Col)]).length = i + 1 := by rw [List.length_append, HLi.out]; rfl
                        have HL4 : Hid ((acc ++ [((s5, t5, Y6.val, Y7.val) : Col)]).length = i + 1) := hlen4
                        rw [hlen4] at hv4e
                        have HO27 : Hid (OwnI 83 8 (VCol 20) w27 (fun z => q < z) v4 (acc ++ [((s5, t5, Y6.val, Y7.val) : Col)])) := ho4
                        have hvq : ∀ z, (Value.slice xa i xc).ownBlock = some z → q < z := fun z e => (HO26.out.lt z e).1.1
                        have HG27 : Hid (w27.heap[g]? = some (.cells #[.int .i64 n, .slice xa i xc, .bool (bitX f 2), .int .i64 s.1, .string s.2, .slice none 0 0] 38 (0, 0))) := (hK27.block g (Nat.lt_of_lt_of_le hlg26 hBw.size) (fun e => by have := hvq g e; have := HGQ.out; omega)).trans ((hBw.block g hlg26).trans HG26.out)
                        have HZ27 : Hid (w27.heap[r]? = some (.cells #[.int .i64 0, .slice none 0 0, .bool false, .int .i64 0, .string ⟨#[]⟩, .slice none 0 0] 38 (0, 0))) := (hK27.block r (Nat.lt_of_lt_of_le (block_lt HZ26.out) hBw.size) (fun e => by have := hvq r e; have := HGQ.out; have := HGE.out; omega)).trans ((hBw.block r (block_lt HZ26.out)).trans HZ26.out)
                        have HA27 : Hid (w27.heap[q]? = some (.cells #[.string o.1, .string o.2, .string ⟨#[]⟩, .int .u16 0, .string ⟨#[]⟩, .string ⟨#[]⟩, .slice none 0 0, .slice none 0 0] 83 (0, 0))) := (hK27.block q (Nat.lt_of_lt_of_le (block_lt HA26.out) hBw.size) (fun e => by have := hvq q e; omega)).trans ((hBw.block q (block_lt HA26.out)).trans HA26.out)
                        have HB27 : Hid (Below w.heap.size w w27) := (HB26.out.trans (hBw.mono HB26.out.size)).trans (hK27.below (Nat.le_trans HB26.out.size hBw.size) (fun z _ e => by have := hvq z e; have := HGQ.out; have := HGE.out; have := HRE.out; omega))
                        subst hv4e
                        obtain ⟨⟨d0, d1, d2, d3, d4, d5⟩, e0, e1, e2, e3, e4, e5⟩ := blk6 HG27.out
                        have HG28 : Hid ((w27.setCell ⟨g, 1, none⟩ (.slice xa4 (i + 1) xc4)).heap[g]? = some (.cells #[.int .i64 n, .slice xa4 (i + 1) xc4, .bool (bitX f 2), .int .i64 s.1, .string s.2, .slice none 0 0] 38 (0, 0))) := blk_set HG27.out 1 _
                        have hK28 := one_kept w27 g 1 (.slice xa4 (i + 1) xc4)
                        have HZ28 : Hid ((w27.setCell ⟨g, 1, none⟩ (.slice xa4 (i + 1) xc4)).heap[r]? = some (.cells #[.int .i64 0, .slice none 0 0, .bool false, .int .i64 0, .string ⟨#[]⟩, .slice none 0 0] 38 (0, 0))) := (hK28.block r (block_lt HZ27.out) (by have := HGE.out; omega)).trans HZ27.out
                        have HA28 : Hid ((w27.setCell ⟨g, 1, none⟩ (.slice xa4 (i + 1) xc4)).heap[q]? = some (.cells #[.string o.1, .string o.2, .string ⟨#[]⟩, .int .u16 0, .string ⟨#[]⟩, .string ⟨#[]⟩, .slice none 0 0, .slice none 0 0] 83 (0, 0))) := (hK28.block q (block_lt HA27.out) (by have := HGQ.out; omega)).trans HA27.out
                        have HO28 : Hid (OwnI 83 8 (VCol 20) (w27.setCell ⟨g, 1, none⟩ (.slice xa4 (i + 1) xc4)) (fun z => q < z) (.slice xa4 (i + 1) xc4) (acc ++ [((s5, t5, Y6.val, Y7.val) : Col)])) := HO27.out.apart (stays_col 20) hK28 (fun z _ hz e => by have := HGQ.out; omega)
                        have HB28 : Hid (Below w.heap.size w (w27.setCell ⟨g, 1, none⟩ (.slice xa4 (i + 1) xc4))) := HB27.out.trans (hK28.below HB27.out.size (fun z _ e => by have := HGE.out; have := HRE.out; omega))
                        have HRZ : Hid (Reads X zs d (bindR (loopR (colR false o) (n - (i + 1))) fun l => pureR (([] : List Int), (((n : Int), (acc ++ [((s5, t5, Y6.val, Y7.val) : Col)]) ++ l, bitX f 2, s, []) : Tb))) ps7 id) := by rw [← HMI.out]; exact HRh.out
                        clear d0 d2 d3 d4 d5 e0 e2 e3 e4 e5 ho4 hK27 hv4 hlen4 hvq hBw hK28 y0 y1 y2 y3 y4 y5 y6 y7 g1 k1
                        go_wp2_with fail
                        go_roundw
                        case rel => exact ⟨i + 1, ps7, _, _, _, by omega, by go_num, rfl, HDD7, HL4, HRZ, HZ28, HG28, HA28, HO28, HB28⟩
                        case measure => simp [intOf]; omega
                · obtain rfl : i = n := by omega
                  have hRa := HRi.out
                  rw [Nat.sub_self] at hRa
                  obtain ⟨x1, x2, x3⟩ := reads_pure (reads_bpure (show Reads X zs d (bindR (pureR ([] : List Col)) _) ps id from hRa))
                  replace x3 : X.val = ([], ((i : Int), acc, bitX f 2, s, [])) := x3.trans (by simp [pureR])
                  have HVE : Hid (i = acc.length) := HLi.out.symm
                  have HOV : Hid (OwnI 83 8 (VCol 20) w20 (fun z => q < z) (.slice xa i xc) acc) := HO20.out
                  clear hRa HRi
                  obtain ⟨wF, hwF, hF6, hKF⟩ := fill6 HZ20.out (.int .i64 i) (.slice xa i xc) (.bool (bitX f 2)) (.int .i64 s.1) (.string s.2) (.slice none 0 0)
                  have HWF : Hid _ := hwF
                  have HF6 : Hid _ := hF6
                  have HBF : Hid (Below w.heap.size w wF) := HB20.out.trans (hKF.below HB20.out.size (fun z _ e => by have := HRE.out; omega))
                  have HXE : Hid (X.err = 0) := x1
                  have HXP : Hid (place d X = ((ps : Nat) : Int)) := by show _ = _; rw [place_ok x1]; congr 1; omega
                  have HXD : Hid (X.err = 0 → d + X.done ≤ len) := fun _ => by have := HPi.out; omega
                  have HXV : Hid (X.val = ([], ((i : Int), acc, bitX f 2, s, []))) := x3
                  have HOF : Hid (OwnI 83 8 (VCol 20) wF (fun z => w.heap.size ≤ z) (.slice xa i xc) acc) := (HOV.out.apart (stays_col 20) hKF (fun z _ hf e => by have := HGQ.out; have := HGE.out; omega)).sub (stays_col 20) (fun z _ hf => by have := HGQ.out; have := HGE.out; have := HRE.out; omega)
                  obtain ⟨_, f0, f1, f2, f3, f4, f5⟩ := blk6 HZ20.out
                  obtain ⟨⟨g0, g1, g2, g3, g4, g5⟩, _⟩ := blk6 HG20.out
                  have hlr := block_lt HZ20.out
                  have hlg := block_lt HG20.out
                  clear hwF hF6 hKF x1 x2 x3
                  go_wp2_with fail
                  rw [HWF.out]
                  obtain ⟨⟨p0, p1, p2, p3, p4, p5⟩, _⟩ := blk6 HF6.out
                  exact bodyPost_ret (v := .tuple #[.agg #[.int .i64 i, .slice xa i xc, .bool (bitX f 2), .int .i64 s.1, .string s.2, .slice none 0 0], .slice none 0 0, .int .i64 ps, .int .i64 0]) (by simp [results, Tryd.results25, go_sem, p0, p1, p2, p3, p4, p5]) rfl
                    ⟨_, _, _, _, _, _, _, _, _, _, by rw [HXE.out, HXP.out], HBF, HXD.out, fun _ => ⟨by rw [HXV.out], by rw [HXV.out]; exact HVE.out, by rw [HXV.out], by rw [HXV.out], by rw [HXV.out], by rw [HXV.out]; rfl, by rw [HXV.out]; exact HOF.out, by rw [HXV.out]; exact ownI_nil _ _ _ _ _⟩⟩
end Go.Proofs.YtnapeecmlkkolaaDoor
