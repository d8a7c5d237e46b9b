/-
  The contracts of getType and Get.
-/
import Derived.Test.YtnapeecmlkkolaaDoorGetU
namespace Go.Proofs.YtnapeecmlkkolaaDoor
open Go.RowKit
set_option linter.unusedVariables false
set_option linter.unusedSimpArgs false

theorem five_new {w wx : World} {q base : Nat} {a b c d e : Value} (hs : w.heap.size < base) (hq : base ≤ q) (hl : q < wx.heap.size) : New w.heap.size (five wx w.heap.size a b c d e) q ∧ (five wx w.heap.size a b c d e).heap[q]? = wx.heap[q]? :=
  ⟨⟨by omega, by rw [five_size]; exact hl⟩, five_heap _ _ _ _ _ _ _ q (by omega)⟩

set_option maxHeartbeats 1000000 in
theorem getType_deep (w : World) (a : Option Addr) (len cap : Nat) (zs : List Int) (p : Int) (hp : p = 21) :
    Calls Tryd.prog 85 #[.slice a len cap, .int .i64 p] w fun e w' => e = .returned (.tuple #[.agg #[.int .u16 0, .string ⟨#[]⟩, .string ⟨#[]⟩, .slice none 0 0, .slice none 0 0], .slice none 0 0, .int .i64 13]) ∧ Below w.heap.size w w' := by
  subst hp
  go_enter Tryd.func85, Tryd.ntmps85
  go_wp2_with fail
  exact bodyPost_ret (v := .tuple #[.agg #[.int .u16 0, .string ⟨#[]⟩, .string ⟨#[]⟩, .slice none 0 0, .slice none 0 0], .slice none 0 0, .int .i64 13]) (by simp [results, Tryd.results85, go_sem]) rfl ⟨rfl, below_one _ _⟩

set_option maxHeartbeats 1000000 in
theorem getType_short (w : World) (a : Option Addr) (len cap : Nat) (zs : List Int) (hl : len < 2) (p : Int) (hp : p ≤ 20) (hp1 : 0 ≤ p) :
    Calls Tryd.prog 85 #[.slice a len cap, .int .i64 p] w fun e w' => e = .returned (.tuple #[.agg #[.int .u16 0, .string ⟨#[]⟩, .string ⟨#[]⟩, .slice none 0 0, .slice none 0 0], .slice none 0 0, .int .i64 10]) ∧ Below w.heap.size w w' := by
  have hd : decide ((20 : Int) < p) = false := by simp; omega
  go_enter Tryd.func85, Tryd.ntmps85
  go_wp2_with fail
  refine (bget_short a len cap 2 _ (by omega) (by omega) hl _ rfl).mono ?_
  rintro e w1 ⟨rfl, rfl⟩
  go_wp2_with fail
  exact bodyPost_ret (v := .tuple #[.agg #[.int .u16 0, .string ⟨#[]⟩, .string ⟨#[]⟩, .slice none 0 0, .slice none 0 0], .slice none 0 0, .int .i64 10]) (by simp [results, Tryd.results85, go_sem]) rfl ⟨rfl, below_one _ _⟩

/-- What getType gives. -/
def GotTy (f : Nat) (w : World) (b : Nat) (zs : List Int) (Y : Res Ty) (e : Ending) (w' : World) : Prop := ∃ r lr cr na nl nc ka kl kc, e = .returned (.tuple #[.agg #[.int .u16 Y.val.id, .string Y.val.space, .string Y.val.name, .slice na nl nc, .slice ka kl kc], .slice r lr cr, .int .i64 Y.err]) ∧
  Hid (TyAt f (New w.heap.size w') w' Y.val na nl nc ka kl kc) ∧ Hid (Rest w' b r lr cr zs Y.done Y.err) ∧ Below w.heap.size w w'

theorem gotTy_err {f : Nat} {w w' : World} {b : Nat} {zs : List Int} {Y : Res Ty} {er : Int} (hY : Y = ⟨tyNil, 0, er⟩) (he : er ≠ 0) (hB : Below w.heap.size w w') : GotTy f w b zs Y (.returned (.tuple #[.agg #[.int .u16 0, .string ⟨#[]⟩, .string ⟨#[]⟩, .slice none 0 0, .slice none 0 0], .slice none 0 0, .int .i64 er])) w' := by
  subst hY
  exact ⟨none, 0, 0, none, 0, 0, none, 0, 0, rfl, tyAt_nil _ _ _, .inl ⟨he, rfl⟩, hB⟩

theorem rest_drop {w : World} {b : Nat} {r : Option Addr} {lr cr : Nat} {zs : List Int} {k d : Nat} (hk : k ≤ zs.length) (h : Rest w b r lr cr (zs.drop k) d 0) : Rest w b r lr cr zs (k + d) 0 := by
  rcases h with ⟨h, _⟩ | ⟨_, h1, o, h2, h3⟩
  · exact absurd rfl h
  · rw [List.length_drop] at h1
    rw [List.drop_drop] at h3
    exact .inr ⟨rfl, by omega, o, h2, h3⟩

theorem behind_rest {w : World} {b o : Nat} {r : Option Addr} {lr cr : Nat} {zs : List Int} {d : Nat} {er : Int} (h : Behind w (some ⟨b, o, none⟩) r lr cr zs d er) : Rest w b r lr cr zs d er := by
  by_cases he : er = 0
  · obtain ⟨h1, off, h2, h3⟩ := h.row he
    exact .inr ⟨he, h1, off, h2, h3⟩
  · rcases h with ⟨h1, h2⟩ | ⟨h1, _⟩
    · exact .inl ⟨h1, h2⟩
    · exact absurd h1 he

theorem Rest.below {w W : World} {base b : Nat} {r : Option Addr} {lr cr : Nat} {zs : List Int} {d : Nat} {er : Int} (h : Rest w b r lr cr zs d er) (hB : Below base w W) (hb : b < base) : Rest W b r lr cr zs d er := by
  rcases h with h | ⟨h1, h2, o, h3, h4⟩
  · exact .inl h
  · exact .inr ⟨h1, h2, o, h3, h4.below hB (fun _ => hb)⟩

set_option maxHeartbeats 2000000 in
theorem getType_custom (f : Nat) (hf19 : f ≤ 19) (ih : GetsTy f) {w : World} {b off len cap : Nat} {zs : List Int} (h : BRow w b off len cap zs) (hb : b < w.heap.size) (hT : Tab w) (hsm : len ≤ 140737488351232) (hl : 2 ≤ len) (I : Int) (hI : numTo zs 2 = I) (hI0 : 0 ≤ I) (hI1 : I < 65536) (q0 : (I == 0) = true) (p : Int) (hp : p = 20 - f) {A : Res ByteArray} (hA : A = textR (zs.drop 2)) {Y : Res Ty} (hY : Y = if A.err = 0 then ⟨⟨I, ⟨#[]⟩, A.val, [], []⟩, 2 + A.done, 0⟩ else ⟨tyNil, 0, A.err⟩) :
    Calls Tryd.prog 85 #[.slice (some ⟨b, off, none⟩) len cap, .int .i64 p] w (GotTy f w b zs Y) := by
  have hz := h.len_eq
  have hd : decide ((20 : Int) < p) = false := by simp; omega
  have hp1 : 0 ≤ p := by omega
  have hp2 : p ≤ 20 := by omega
  have HP : Hid (p + 1 = 21 - f) := by show _ = _; omega
  have HPP : Hid (p = 20 - f) := hp
  have H : Hid (BRow w b off len cap zs) := h
  have HI : Hid _ := hI
  have HZ : Hid (zs.length = len) := hz
  have HT : Hid (Tab w) := hT
  have IH : Hid (GetsTy f) := ih
  have HA : Hid _ := hA
  have HY : Hid _ := hY
  have HAS : Hid (A.val.size ≤ maxLen) := by show _ ≤ _; rw [hA]; exact textR_size _ (by unfold maxLen; rw [List.length_drop]; omega)
  clear hA hY
  clear h hz hT ih hI hp
  go_enter Tryd.func85, Tryd.ntmps85
  go_wp2_with fail
  refine (bget (H.out.old (below_one _ _)) 2 (by omega) (by omega) (by omega) _ rfl).mono ?_
  rintro e w1 ⟨off1, rfl, hR1, hB1⟩
  rw [HI.out]
  have HR1 : Hid (BRow w1 b off1 (len - 2) (cap - 2) (zs.drop 2)) := hR1
  have hs1 : w.heap.size < w1.heap.size := by have := hB1.size; simp at this; omega
  have hbw : b < w1.heap.size := by omega
  have HT1 : Hid (Tab w1) := HT.out.old ((below_one w _).trans (hB1.mono (by simp)))
  clear hR1
  go_wp2_with fail
  refine (getText_r (HR1.out.old (below_one _ _)).isB (by omega) HA.out).mono ?_
  rintro e w2 ⟨r2, lr2, cr2, rfl, HB2, hB2⟩
  have hB2w : Below w1.heap.size w1 w2 := (below_one w1 _).trans (hB2.mono (by simp))
  obtain ⟨hc2, hf2⟩ := bcell hB2
  have hs2 : w1.heap.size < w2.heap.size := by have := hB2.size; simp at this; omega
  obtain ⟨w3, hw3⟩ : ∃ w3, w3 = w2.setCell ⟨w1.heap.size, 2, .none⟩ (.string A.val) := ⟨_, rfl⟩
  have hL3 : w2.setCell ⟨w1.heap.size, 2, .none⟩ (.string A.val) = w3 := hw3.symm
  have hB13 : Below w1.heap.size w1 w3 := by rw [hw3]; exact hB2w.setCell (p := ⟨w1.heap.size, 2, .none⟩) (Nat.le_refl _) _
  have hBx : Below (w.alloc (.cells #[.int .u16 0, .string ⟨#[]⟩, .string ⟨#[]⟩, .slice none 0 0, .slice none 0 0] 62)).heap.size (w.alloc (.cells #[.int .u16 0, .string ⟨#[]⟩, .string ⟨#[]⟩, .slice none 0 0, .slice none 0 0] 62)) w3 := hB1.trans (hB13.mono hB1.size)
  have hs3 : w2.heap.size ≤ w3.heap.size := by rw [hw3]; simp
  have hs3' : w3.heap.size ≤ w2.heap.size := by rw [hw3]; simp
  have n0 : w3.cell? ⟨w1.heap.size, 0, .none⟩ = some (.int .u16 I) := by rw [hw3]; simp [go_sem, hc2, hs2]
  have n1 : w3.cell? ⟨w1.heap.size, 1, .none⟩ = some (.string ⟨#[]⟩) := by rw [hw3]; simp [go_sem, hc2, hs2]
  have n2 : w3.cell? ⟨w1.heap.size, 2, .none⟩ = some (.string A.val) := by rw [hw3]; simp [go_sem, hc2, hs2]
  have n3 : w3.cell? ⟨w1.heap.size, 3, .none⟩ = some (.slice none 0 0) := by rw [hw3]; simp [go_sem, hc2, hs2]
  have n4 : w3.cell? ⟨w1.heap.size, 4, .none⟩ = some (.slice none 0 0) := by rw [hw3]; simp [go_sem, hc2, hs2]
  have HW3 : Hid _ := hw3
  clear hw3
  by_cases he : A.err = 0
  · rw [he]
    obtain ⟨hc, hf⟩ := bcell hBx
    have hs : w.heap.size < w3.heap.size := by omega
    have HYE : Hid (Y = ⟨⟨I, ⟨#[]⟩, A.val, [], []⟩, 2 + A.done, 0⟩) := by show _ = _; rw [HY.out, if_pos he]
    go_wp2_with fail
    refine bodyPost_ret (v := .tuple #[.agg #[.int .u16 I, .string ⟨#[]⟩, .string A.val, .slice none 0 0, .slice none 0 0], .slice r2 lr2 cr2, .int .i64 0]) (by simp [results, Tryd.results85, go_sem, hc, hs]) rfl
      ⟨r2, lr2, cr2, none, 0, 0, none, 0, 0, by rw [HYE.out], ?_, ?_, (((below_one w _).trans (hBx.mono (by simp))).trans ((below_five _ _ _ _ _ _ _).mono (Nat.le_refl _)))⟩
    · rw [HYE.out]
      exact ⟨⟨hI0, hI1⟩, by unfold maxLen; show 0 ≤ _; omega, HAS.out, sees_nil _ _ _ _, sees_nil _ _ _ _⟩
    · rw [HYE.out]
      have hrest := behind_rest HB2.out
      rw [he] at hrest
      refine rest_drop (by have := HZ.out; omega) ?_
      refine (hrest.below (W := w3) (base := w1.heap.size) (by rw [HW3.out]; exact (Below.refl _ _).setCell (p := ⟨w1.heap.size, 2, .none⟩) (Nat.le_refl _) _) hbw).below (base := w.heap.size) (below_five _ _ _ _ _ _ _) hb
  · have te : (A.err == 0) = false := by simpa using he
    have HE : Hid (Y = ⟨tyNil, 0, A.err⟩) := by show _ = _; rw [HY.out, if_neg he]
    have HNE : Hid (A.err ≠ 0) := he
    clear he
    obtain ⟨hc, hf⟩ := bcell hBx
    have hs : w.heap.size < w3.heap.size := by have := hBx.size; simp at this; omega
    go_wp2_with fail
    exact bodyPost_ret (v := .tuple #[.agg #[.int .u16 0, .string ⟨#[]⟩, .string ⟨#[]⟩, .slice none 0 0, .slice none 0 0], .slice none 0 0, .int .i64 A.err]) (by simp [results, Tryd.results85, go_sem, hc, hs]) rfl (gotTy_err HE.out HNE.out (((below_one w _).trans (hBx.mono (by simp))).trans ((below_five _ _ _ _ _ _ _).mono (Nat.le_refl _))))

set_option maxHeartbeats 2000000 in
theorem getType_list (f : Nat) (hf19 : f ≤ 19) (ih : GetsTy f) {w : World} {b off len cap : Nat} {zs : List Int} (h : BRow w b off len cap zs) (hb : b < w.heap.size) (hT : Tab w) (hsm : len ≤ 140737488351232) (hl : 2 ≤ len) (I : Int) (hI : numTo zs 2 = I) (hI0 : 0 ≤ I) (hI1 : I < 65536) (q0 : (I == 0) = false) (q1 : (I == 32) = true) (p : Int) (hp : p = 20 - f) {G : Res (List Ty)} (hG : G = goR (tyR f) (zs.drop 2) 1 0 []) {Y : Res Ty} (hY : Y = if G.err = 0 then ⟨⟨I, ⟨#[]⟩, ⟨#[]⟩, [], G.val⟩, 2 + G.done, 0⟩ else ⟨tyNil, 0, G.err⟩) :
    Calls Tryd.prog 85 #[.slice (some ⟨b, off, none⟩) len cap, .int .i64 p] w (GotTy f w b zs Y) := by
  have hz := h.len_eq
  have hd : decide ((20 : Int) < p) = false := by simp; omega
  have hp1 : 0 ≤ p := by omega
  have hp2 : p ≤ 20 := by omega
  have HP : Hid (p + 1 = 21 - f) := by show _ = _; omega
  have HPP : Hid (p = 20 - f) := hp
  have H : Hid (BRow w b off len cap zs) := h
  have HI : Hid _ := hI
  have HZ : Hid (zs.length = len) := hz
  have HT : Hid (Tab w) := hT
  have IH : Hid (GetsTy f) := ih
  have HG : Hid _ := hG
  have HY : Hid _ := hY
  clear hG hY
  clear h hz hT ih hI hp
  go_enter Tryd.func85, Tryd.ntmps85
  go_wp2_with fail
  refine (bget (H.out.old (below_one _ _)) 2 (by omega) (by omega) (by omega) _ rfl).mono ?_
  rintro e w1 ⟨off1, rfl, hR1, hB1⟩
  rw [HI.out]
  have HR1 : Hid (BRow w1 b off1 (len - 2) (cap - 2) (zs.drop 2)) := hR1
  have hs1 : w.heap.size < w1.heap.size := by have := hB1.size; simp at this; omega
  have hbw : b < w1.heap.size := by omega
  have HT1 : Hid (Tab w1) := HT.out.old ((below_one w _).trans (hB1.mono (by simp)))
  clear hR1
  go_wp2_with fail
  refine (getKids_any f (by omega) IH.out (HR1.out.old (below_one _ _)) (by simp; omega) (HT1.out.old (below_one _ _)) (by omega) 1 0 (by omega) rfl HG.out _ _ rfl HP.out (by simp)).mono ?_
  rintro e w2 ⟨vk, r2, lr2, cr2, rfl, HOK, HB2, hB2⟩
  obtain ⟨ak, ck, hvk, hSk⟩ := (HOK.out).sees
  obtain ⟨lk, hlk⟩ : ∃ lk, lk = G.val.length := ⟨_, rfl⟩
  rw [← hlk] at hvk hSk
  subst hvk
  have HSK : Hid (Sees 5 (fun q => w1.heap.size + 1 ≤ q ∧ q < w2.heap.size) (VT f (fun q => w1.heap.size + 1 ≤ q ∧ q < w2.heap.size) w2) w2 ak lk ck G.val) := by show Sees _ _ _ _ _ _ _ _; simpa using hSk
  clear hSk hlk
  have hB2w : Below w1.heap.size w1 w2 := (below_one w1 _).trans (hB2.mono (by simp))
  obtain ⟨hc2, hf2⟩ := bcell hB2
  have hs2 : w1.heap.size < w2.heap.size := by have := hB2.size; simp at this; omega
  obtain ⟨w3, hw3⟩ : ∃ w3, w3 = w2.setCell ⟨w1.heap.size, 4, .none⟩ (.slice ak lk ck) := ⟨_, rfl⟩
  have hL3 : w2.setCell ⟨w1.heap.size, 4, .none⟩ (.slice ak lk ck) = w3 := hw3.symm
  have hB13 : Below w1.heap.size w1 w3 := by rw [hw3]; exact hB2w.setCell (p := ⟨w1.heap.size, 4, .none⟩) (Nat.le_refl _) _
  have hBx : Below (w.alloc (.cells #[.int .u16 0, .string ⟨#[]⟩, .string ⟨#[]⟩, .slice none 0 0, .slice none 0 0] 62)).heap.size (w.alloc (.cells #[.int .u16 0, .string ⟨#[]⟩, .string ⟨#[]⟩, .slice none 0 0, .slice none 0 0] 62)) w3 := hB1.trans (hB13.mono hB1.size)
  have hs3 : w2.heap.size ≤ w3.heap.size := by rw [hw3]; simp
  have hs3' : w3.heap.size ≤ w2.heap.size := by rw [hw3]; simp
  have n0 : w3.cell? ⟨w1.heap.size, 0, .none⟩ = some (.int .u16 I) := by rw [hw3]; simp [go_sem, hc2, hs2]
  have n1 : w3.cell? ⟨w1.heap.size, 1, .none⟩ = some (.string ⟨#[]⟩) := by rw [hw3]; simp [go_sem, hc2, hs2]
  have n2 : w3.cell? ⟨w1.heap.size, 2, .none⟩ = some (.string ⟨#[]⟩) := by rw [hw3]; simp [go_sem, hc2, hs2]
  have n3 : w3.cell? ⟨w1.heap.size, 3, .none⟩ = some (.slice none 0 0) := by rw [hw3]; simp [go_sem, hc2, hs2]
  have n4 : w3.cell? ⟨w1.heap.size, 4, .none⟩ = some (.slice ak lk ck) := by rw [hw3]; simp [go_sem, hc2, hs2]
  have HW3 : Hid _ := hw3
  clear hw3
  by_cases he : G.err = 0
  · rw [he]
    obtain ⟨hc, hf⟩ := bcell hBx
    have hs : w.heap.size < w3.heap.size := by omega
    have HYE : Hid (Y = ⟨⟨I, ⟨#[]⟩, ⟨#[]⟩, [], G.val⟩, 2 + G.done, 0⟩) := by show _ = _; rw [HY.out, if_pos he]
    go_wp2_with fail
    refine bodyPost_ret (v := .tuple #[.agg #[.int .u16 I, .string ⟨#[]⟩, .string ⟨#[]⟩, .slice none 0 0, .slice ak lk ck], .slice r2 lr2 cr2, .int .i64 0]) (by simp [results, Tryd.results85, go_sem, hc, hs]) rfl
      ⟨r2, lr2, cr2, none, 0, 0, ak, lk, ck, by rw [HYE.out], ?_, ?_, (((below_one w _).trans (hBx.mono (by simp))).trans ((below_five _ _ _ _ _ _ _).mono (Nat.le_refl _)))⟩
    · rw [HYE.out]
      refine ⟨⟨hI0, hI1⟩, by unfold maxLen; show 0 ≤ _; omega, by unfold maxLen; show 0 ≤ _; omega, sees_nil _ _ _ _, ?_⟩
      have hkb : ∀ q, w1.heap.size + 1 ≤ q → w3.heap[q]? = w2.heap[q]? := fun q hq => by rw [HW3.out]; exact Below.heap_setCell _ _ _ _ (by show q ≠ w1.heap.size; omega)
      refine HSK.out.mono (fun q hq hF => ?_) (by simp; omega) (fun _ _ _ hh => VT.mono (fun q hq hF => ?_) (by simp; omega) hh)
      · have := five_new (w := w) (wx := w3) (q := q) (base := w1.heap.size + 1) (a := .int .u16 I) (b := .string ⟨#[]⟩) (c := .string ⟨#[]⟩) (d := .slice none 0 0) (e := .slice ak lk ck) (by omega) hF.1 (by omega)
        exact ⟨this.1, this.2.trans (hkb q hF.1)⟩
      · have := five_new (w := w) (wx := w3) (q := q) (base := w1.heap.size + 1) (a := .int .u16 I) (b := .string ⟨#[]⟩) (c := .string ⟨#[]⟩) (d := .slice none 0 0) (e := .slice ak lk ck) (by omega) hF.1 (by omega)
        exact ⟨this.1, this.2.trans (hkb q hF.1)⟩
    · rw [HYE.out]
      have hrest := (show Rest w2 b r2 lr2 cr2 (zs.drop 2) G.done G.err from HB2.out)
      rw [he] at hrest
      refine rest_drop (by have := HZ.out; omega) ?_
      refine (hrest.below (W := w3) (base := w1.heap.size) (by rw [HW3.out]; exact (Below.refl _ _).setCell (p := ⟨w1.heap.size, 4, .none⟩) (Nat.le_refl _) _) hbw).below (base := w.heap.size) (below_five _ _ _ _ _ _ _) hb
  · have te : (G.err == 0) = false := by simpa using he
    have HE : Hid (Y = ⟨tyNil, 0, G.err⟩) := by show _ = _; rw [HY.out, if_neg he]
    have HNE : Hid (G.err ≠ 0) := he
    clear he
    obtain ⟨hc, hf⟩ := bcell hBx
    have hs : w.heap.size < w3.heap.size := by have := hBx.size; simp at this; omega
    go_wp2_with fail
    exact bodyPost_ret (v := .tuple #[.agg #[.int .u16 0, .string ⟨#[]⟩, .string ⟨#[]⟩, .slice none 0 0, .slice none 0 0], .slice none 0 0, .int .i64 G.err]) (by simp [results, Tryd.results85, go_sem, hc, hs]) rfl (gotTy_err HE.out HNE.out (((below_one w _).trans (hBx.mono (by simp))).trans ((below_five _ _ _ _ _ _ _).mono (Nat.le_refl _))))

set_option maxHeartbeats 2000000 in
theorem getType_set (f : Nat) (hf19 : f ≤ 19) (ih : GetsTy f) {w : World} {b off len cap : Nat} {zs : List Int} (h : BRow w b off len cap zs) (hb : b < w.heap.size) (hT : Tab w) (hsm : len ≤ 140737488351232) (hl : 2 ≤ len) (I : Int) (hI : numTo zs 2 = I) (hI0 : 0 ≤ I) (hI1 : I < 65536) (q0 : (I == 0) = false) (q1 : (I == 32) = false) (q2 : (I == 34) = true) (p : Int) (hp : p = 20 - f) {G : Res (List Ty)} (hG : G = goR (tyR f) (zs.drop 2) 1 0 []) {Y : Res Ty} (hY : Y = if G.err = 0 then ⟨⟨I, ⟨#[]⟩, ⟨#[]⟩, [], G.val⟩, 2 + G.done, 0⟩ else ⟨tyNil, 0, G.err⟩) :
    Calls Tryd.prog 85 #[.slice (some ⟨b, off, none⟩) len cap, .int .i64 p] w (GotTy f w b zs Y) := by
  have hz := h.len_eq
  have hd : decide ((20 : Int) < p) = false := by simp; omega
  have hp1 : 0 ≤ p := by omega
  have hp2 : p ≤ 20 := by omega
  have HP : Hid (p + 1 = 21 - f) := by show _ = _; omega
  have HPP : Hid (p = 20 - f) := hp
  have H : Hid (BRow w b off len cap zs) := h
  have HI : Hid _ := hI
  have HZ : Hid (zs.length = len) := hz
  have HT : Hid (Tab w) := hT
  have IH : Hid (GetsTy f) := ih
  have HG : Hid _ := hG
  have HY : Hid _ := hY
  clear hG hY
  clear h hz hT ih hI hp
  go_enter Tryd.func85, Tryd.ntmps85
  go_wp2_with fail
  refine (bget (H.out.old (below_one _ _)) 2 (by omega) (by omega) (by omega) _ rfl).mono ?_
  rintro e w1 ⟨off1, rfl, hR1, hB1⟩
  rw [HI.out]
  have HR1 : Hid (BRow w1 b off1 (len - 2) (cap - 2) (zs.drop 2)) := hR1
  have hs1 : w.heap.size < w1.heap.size := by have := hB1.size; simp at this; omega
  have hbw : b < w1.heap.size := by omega
  have HT1 : Hid (Tab w1) := HT.out.old ((below_one w _).trans (hB1.mono (by simp)))
  clear hR1
  go_wp2_with fail
  refine (getKids_any f (by omega) IH.out (HR1.out.old (below_one _ _)) (by simp; omega) (HT1.out.old (below_one _ _)) (by omega) 1 0 (by omega) rfl HG.out _ _ rfl HP.out (by simp)).mono ?_
  rintro e w2 ⟨vk, r2, lr2, cr2, rfl, HOK, HB2, hB2⟩
  obtain ⟨ak, ck, hvk, hSk⟩ := (HOK.out).sees
  obtain ⟨lk, hlk⟩ : ∃ lk, lk = G.val.length := ⟨_, rfl⟩
  rw [← hlk] at hvk hSk
  subst hvk
  have HSK : Hid (Sees 5 (fun q => w1.heap.size + 1 ≤ q ∧ q < w2.heap.size) (VT f (fun q => w1.heap.size + 1 ≤ q ∧ q < w2.heap.size) w2) w2 ak lk ck G.val) := by show Sees _ _ _ _ _ _ _ _; simpa using hSk
  clear hSk hlk
  have hB2w : Below w1.heap.size w1 w2 := (below_one w1 _).trans (hB2.mono (by simp))
  obtain ⟨hc2, hf2⟩ := bcell hB2
  have hs2 : w1.heap.size < w2.heap.size := by have := hB2.size; simp at this; omega
  obtain ⟨w3, hw3⟩ : ∃ w3, w3 = w2.setCell ⟨w1.heap.size, 4, .none⟩ (.slice ak lk ck) := ⟨_, rfl⟩
  have hL3 : w2.setCell ⟨w1.heap.size, 4, .none⟩ (.slice ak lk ck) = w3 := hw3.symm
  have hB13 : Below w1.heap.size w1 w3 := by rw [hw3]; exact hB2w.setCell (p := ⟨w1.heap.size, 4, .none⟩) (Nat.le_refl _) _
  have hBx : Below (w.alloc (.cells #[.int .u16 0, .string ⟨#[]⟩, .string ⟨#[]⟩, .slice none 0 0, .slice none 0 0] 62)).heap.size (w.alloc (.cells #[.int .u16 0, .string ⟨#[]⟩, .string ⟨#[]⟩, .slice none 0 0, .slice none 0 0] 62)) w3 := hB1.trans (hB13.mono hB1.size)
  have hs3 : w2.heap.size ≤ w3.heap.size := by rw [hw3]; simp
  have hs3' : w3.heap.size ≤ w2.heap.size := by rw [hw3]; simp
  have n0 : w3.cell? ⟨w1.heap.size, 0, .none⟩ = some (.int .u16 I) := by rw [hw3]; simp [go_sem, hc2, hs2]
  have n1 : w3.cell? ⟨w1.heap.size, 1, .none⟩ = some (.string ⟨#[]⟩) := by rw [hw3]; simp [go_sem, hc2, hs2]
  have n2 : w3.cell? ⟨w1.heap.size, 2, .none⟩ = some (.string ⟨#[]⟩) := by rw [hw3]; simp [go_sem, hc2, hs2]
  have n3 : w3.cell? ⟨w1.heap.size, 3, .none⟩ = some (.slice none 0 0) := by rw [hw3]; simp [go_sem, hc2, hs2]
  have n4 : w3.cell? ⟨w1.heap.size, 4, .none⟩ = some (.slice ak lk ck) := by rw [hw3]; simp [go_sem, hc2, hs2]
  have HW3 : Hid _ := hw3
  clear hw3
  by_cases he : G.err = 0
  · rw [he]
    obtain ⟨hc, hf⟩ := bcell hBx
    have hs : w.heap.size < w3.heap.size := by omega
    have HYE : Hid (Y = ⟨⟨I, ⟨#[]⟩, ⟨#[]⟩, [], G.val⟩, 2 + G.done, 0⟩) := by show _ = _; rw [HY.out, if_pos he]
    go_wp2_with fail
    refine bodyPost_ret (v := .tuple #[.agg #[.int .u16 I, .string ⟨#[]⟩, .string ⟨#[]⟩, .slice none 0 0, .slice ak lk ck], .slice r2 lr2 cr2, .int .i64 0]) (by simp [results, Tryd.results85, go_sem, hc, hs]) rfl
      ⟨r2, lr2, cr2, none, 0, 0, ak, lk, ck, by rw [HYE.out], ?_, ?_, (((below_one w _).trans (hBx.mono (by simp))).trans ((below_five _ _ _ _ _ _ _).mono (Nat.le_refl _)))⟩
    · rw [HYE.out]
      refine ⟨⟨hI0, hI1⟩, by unfold maxLen; show 0 ≤ _; omega, by unfold maxLen; show 0 ≤ _; omega, sees_nil _ _ _ _, ?_⟩
      have hkb : ∀ q, w1.heap.size + 1 ≤ q → w3.heap[q]? = w2.heap[q]? := fun q hq => by rw [HW3.out]; exact Below.heap_setCell _ _ _ _ (by show q ≠ w1.heap.size; omega)
      refine HSK.out.mono (fun q hq hF => ?_) (by simp; omega) (fun _ _ _ hh => VT.mono (fun q hq hF => ?_) (by simp; omega) hh)
      · have := five_new (w := w) (wx := w3) (q := q) (base := w1.heap.size + 1) (a := .int .u16 I) (b := .string ⟨#[]⟩) (c := .string ⟨#[]⟩) (d := .slice none 0 0) (e := .slice ak lk ck) (by omega) hF.1 (by omega)
        exact ⟨this.1, this.2.trans (hkb q hF.1)⟩
      · have := five_new (w := w) (wx := w3) (q := q) (base := w1.heap.size + 1) (a := .int .u16 I) (b := .string ⟨#[]⟩) (c := .string ⟨#[]⟩) (d := .slice none 0 0) (e := .slice ak lk ck) (by omega) hF.1 (by omega)
        exact ⟨this.1, this.2.trans (hkb q hF.1)⟩
    · rw [HYE.out]
      have hrest := (show Rest w2 b r2 lr2 cr2 (zs.drop 2) G.done G.err from HB2.out)
      rw [he] at hrest
      refine rest_drop (by have := HZ.out; omega) ?_
      refine (hrest.below (W := w3) (base := w1.heap.size) (by rw [HW3.out]; exact (Below.refl _ _).setCell (p := ⟨w1.heap.size, 4, .none⟩) (Nat.le_refl _) _) hbw).below (base := w.heap.size) (below_five _ _ _ _ _ _ _) hb
  · have te : (G.err == 0) = false := by simpa using he
    have HE : Hid (Y = ⟨tyNil, 0, G.err⟩) := by show _ = _; rw [HY.out, if_neg he]
    have HNE : Hid (G.err ≠ 0) := he
    clear he
    obtain ⟨hc, hf⟩ := bcell hBx
    have hs : w.heap.size < w3.heap.size := by have := hBx.size; simp at this; omega
    go_wp2_with fail
    exact bodyPost_ret (v := .tuple #[.agg #[.int .u16 0, .string ⟨#[]⟩, .string ⟨#[]⟩, .slice none 0 0, .slice none 0 0], .slice none 0 0, .int .i64 G.err]) (by simp [results, Tryd.results85, go_sem, hc, hs]) rfl (gotTy_err HE.out HNE.out (((below_one w _).trans (hBx.mono (by simp))).trans ((below_five _ _ _ _ _ _ _).mono (Nat.le_refl _))))

set_option maxHeartbeats 2000000 in
theorem getType_map (f : Nat) (hf19 : f ≤ 19) (ih : GetsTy f) {w : World} {b off len cap : Nat} {zs : List Int} (h : BRow w b off len cap zs) (hb : b < w.heap.size) (hT : Tab w) (hsm : len ≤ 140737488351232) (hl : 2 ≤ len) (I : Int) (hI : numTo zs 2 = I) (hI0 : 0 ≤ I) (hI1 : I < 65536) (q0 : (I == 0) = false) (q1 : (I == 32) = false) (q2 : (I == 34) = false) (q3 : (I == 33) = true) (p : Int) (hp : p = 20 - f) {G : Res (List Ty)} (hG : G = goR (tyR f) (zs.drop 2) 2 0 []) {Y : Res Ty} (hY : Y = if G.err = 0 then ⟨⟨I, ⟨#[]⟩, ⟨#[]⟩, [], G.val⟩, 2 + G.done, 0⟩ else ⟨tyNil, 0, G.err⟩) :
    Calls Tryd.prog 85 #[.slice (some ⟨b, off, none⟩) len cap, .int .i64 p] w (GotTy f w b zs Y) := by
  have hz := h.len_eq
  have hd : decide ((20 : Int) < p) = false := by simp; omega
  have hp1 : 0 ≤ p := by omega
  have hp2 : p ≤ 20 := by omega
  have HP : Hid (p + 1 = 21 - f) := by show _ = _; omega
  have HPP : Hid (p = 20 - f) := hp
  have H : Hid (BRow w b off len cap zs) := h
  have HI : Hid _ := hI
  have HZ : Hid (zs.length = len) := hz
  have HT : Hid (Tab w) := hT
  have IH : Hid (GetsTy f) := ih
  have HG : Hid _ := hG
  have HY : Hid _ := hY
  clear hG hY
  clear h hz hT ih hI hp
  go_enter Tryd.func85, Tryd.ntmps85
  go_wp2_with fail
  refine (bget (H.out.old (below_one _ _)) 2 (by omega) (by omega) (by omega) _ rfl).mono ?_
  rintro e w1 ⟨off1, rfl, hR1, hB1⟩
  rw [HI.out]
  have HR1 : Hid (BRow w1 b off1 (len - 2) (cap - 2) (zs.drop 2)) := hR1
  have hs1 : w.heap.size < w1.heap.size := by have := hB1.size; simp at this; omega
  have hbw : b < w1.heap.size := by omega
  have HT1 : Hid (Tab w1) := HT.out.old ((below_one w _).trans (hB1.mono (by simp)))
  clear hR1
  go_wp2_with fail
  refine (getKids_any f (by omega) IH.out (HR1.out.old (below_one _ _)) (by simp; omega) (HT1.out.old (below_one _ _)) (by omega) 2 0 (by omega) rfl HG.out _ _ rfl HP.out (by simp)).mono ?_
  rintro e w2 ⟨vk, r2, lr2, cr2, rfl, HOK, HB2, hB2⟩
  obtain ⟨ak, ck, hvk, hSk⟩ := (HOK.out).sees
  obtain ⟨lk, hlk⟩ : ∃ lk, lk = G.val.length := ⟨_, rfl⟩
  rw [← hlk] at hvk hSk
  subst hvk
  have HSK : Hid (Sees 5 (fun q => w1.heap.size + 1 ≤ q ∧ q < w2.heap.size) (VT f (fun q => w1.heap.size + 1 ≤ q ∧ q < w2.heap.size) w2) w2 ak lk ck G.val) := by show Sees _ _ _ _ _ _ _ _; simpa using hSk
  clear hSk hlk
  have hB2w : Below w1.heap.size w1 w2 := (below_one w1 _).trans (hB2.mono (by simp))
  obtain ⟨hc2, hf2⟩ := bcell hB2
  have hs2 : w1.heap.size < w2.heap.size := by have := hB2.size; simp at this; omega
  obtain ⟨w3, hw3⟩ : ∃ w3, w3 = w2.setCell ⟨w1.heap.size, 4, .none⟩ (.slice ak lk ck) := ⟨_, rfl⟩
  have hL3 : w2.setCell ⟨w1.heap.size, 4, .none⟩ (.slice ak lk ck) = w3 := hw3.symm
  have hB13 : Below w1.heap.size w1 w3 := by rw [hw3]; exact hB2w.setCell (p := ⟨w1.heap.size, 4, .none⟩) (Nat.le_refl _) _
  have hBx : Below (w.alloc (.cells #[.int .u16 0, .string ⟨#[]⟩, .string ⟨#[]⟩, .slice none 0 0, .slice none 0 0] 62)).heap.size (w.alloc (.cells #[.int .u16 0, .string ⟨#[]⟩, .string ⟨#[]⟩, .slice none 0 0, .slice none 0 0] 62)) w3 := hB1.trans (hB13.mono hB1.size)
  have hs3 : w2.heap.size ≤ w3.heap.size := by rw [hw3]; simp
  have hs3' : w3.heap.size ≤ w2.heap.size := by rw [hw3]; simp
  have n0 : w3.cell? ⟨w1.heap.size, 0, .none⟩ = some (.int .u16 I) := by rw [hw3]; simp [go_sem, hc2, hs2]
  have n1 : w3.cell? ⟨w1.heap.size, 1, .none⟩ = some (.string ⟨#[]⟩) := by rw [hw3]; simp [go_sem, hc2, hs2]
  have n2 : w3.cell? ⟨w1.heap.size, 2, .none⟩ = some (.string ⟨#[]⟩) := by rw [hw3]; simp [go_sem, hc2, hs2]
  have n3 : w3.cell? ⟨w1.heap.size, 3, .none⟩ = some (.slice none 0 0) := by rw [hw3]; simp [go_sem, hc2, hs2]
  have n4 : w3.cell? ⟨w1.heap.size, 4, .none⟩ = some (.slice ak lk ck) := by rw [hw3]; simp [go_sem, hc2, hs2]
  have HW3 : Hid _ := hw3
  clear hw3
  by_cases he : G.err = 0
  · rw [he]
    obtain ⟨hc, hf⟩ := bcell hBx
    have hs : w.heap.size < w3.heap.size := by omega
    have HYE : Hid (Y = ⟨⟨I, ⟨#[]⟩, ⟨#[]⟩, [], G.val⟩, 2 + G.done, 0⟩) := by show _ = _; rw [HY.out, if_pos he]
    go_wp2_with fail
    refine bodyPost_ret (v := .tuple #[.agg #[.int .u16 I, .string ⟨#[]⟩, .string ⟨#[]⟩, .slice none 0 0, .slice ak lk ck], .slice r2 lr2 cr2, .int .i64 0]) (by simp [results, Tryd.results85, go_sem, hc, hs]) rfl
      ⟨r2, lr2, cr2, none, 0, 0, ak, lk, ck, by rw [HYE.out], ?_, ?_, (((below_one w _).trans (hBx.mono (by simp))).trans ((below_five _ _ _ _ _ _ _).mono (Nat.le_refl _)))⟩
    · rw [HYE.out]
      refine ⟨⟨hI0, hI1⟩, by unfold maxLen; show 0 ≤ _; omega, by unfold maxLen; show 0 ≤ _; omega, sees_nil _ _ _ _, ?_⟩
      have hkb : ∀ q, w1.heap.size + 1 ≤ q → w3.heap[q]? = w2.heap[q]? := fun q hq => by rw [HW3.out]; exact Below.heap_setCell _ _ _ _ (by show q ≠ w1.heap.size; omega)
      refine HSK.out.mono (fun q hq hF => ?_) (by simp; omega) (fun _ _ _ hh => VT.mono (fun q hq hF => ?_) (by simp; omega) hh)
      · have := five_new (w := w) (wx := w3) (q := q) (base := w1.heap.size + 1) (a := .int .u16 I) (b := .string ⟨#[]⟩) (c := .string ⟨#[]⟩) (d := .slice none 0 0) (e := .slice ak lk ck) (by omega) hF.1 (by omega)
        exact ⟨this.1, this.2.trans (hkb q hF.1)⟩
      · have := five_new (w := w) (wx := w3) (q := q) (base := w1.heap.size + 1) (a := .int .u16 I) (b := .string ⟨#[]⟩) (c := .string ⟨#[]⟩) (d := .slice none 0 0) (e := .slice ak lk ck) (by omega) hF.1 (by omega)
        exact ⟨this.1, this.2.trans (hkb q hF.1)⟩
    · rw [HYE.out]
      have hrest := (show Rest w2 b r2 lr2 cr2 (zs.drop 2) G.done G.err from HB2.out)
      rw [he] at hrest
      refine rest_drop (by have := HZ.out; omega) ?_
      refine (hrest.below (W := w3) (base := w1.heap.size) (by rw [HW3.out]; exact (Below.refl _ _).setCell (p := ⟨w1.heap.size, 4, .none⟩) (Nat.le_refl _) _) hbw).below (base := w.heap.size) (below_five _ _ _ _ _ _ _) hb
  · have te : (G.err == 0) = false := by simpa using he
    have HE : Hid (Y = ⟨tyNil, 0, G.err⟩) := by show _ = _; rw [HY.out, if_neg he]
    have HNE : Hid (G.err ≠ 0) := he
    clear he
    obtain ⟨hc, hf⟩ := bcell hBx
    have hs : w.heap.size < w3.heap.size := by have := hBx.size; simp at this; omega
    go_wp2_with fail
    exact bodyPost_ret (v := .tuple #[.agg #[.int .u16 0, .string ⟨#[]⟩, .string ⟨#[]⟩, .slice none 0 0, .slice none 0 0], .slice none 0 0, .int .i64 G.err]) (by simp [results, Tryd.results85, go_sem, hc, hs]) rfl (gotTy_err HE.out HNE.out (((below_one w _).trans (hBx.mono (by simp))).trans ((below_five _ _ _ _ _ _ _).mono (Nat.le_refl _))))

set_option maxHeartbeats 2000000 in
theorem getType_tuple (f : Nat) (hf19 : f ≤ 19) (ih : GetsTy f) {w : World} {b off len cap : Nat} {zs : List Int} (h : BRow w b off len cap zs) (hb : b < w.heap.size) (hT : Tab w) (hsm : len ≤ 140737488351232) (hl : 2 ≤ len) (I : Int) (hI : numTo zs 2 = I) (hI0 : 0 ≤ I) (hI1 : I < 65536) (q0 : (I == 0) = false) (q1 : (I == 32) = false) (q2 : (I == 34) = false) (q3 : (I == 33) = false) (q4 : (I == 48) = false) (q5 : (I == 49) = true) (p : Int) (hp : p = 20 - f) {G : Res (List Ty)} (hG : G = tupleR (tyR f) (zs.drop 2)) {Y : Res Ty} (hY : Y = if G.err = 0 then ⟨⟨I, ⟨#[]⟩, ⟨#[]⟩, [], G.val⟩, 2 + G.done, 0⟩ else ⟨tyNil, 0, G.err⟩) :
    Calls Tryd.prog 85 #[.slice (some ⟨b, off, none⟩) len cap, .int .i64 p] w (GotTy f w b zs Y) := by
  have hz := h.len_eq
  have hd : decide ((20 : Int) < p) = false := by simp; omega
  have hp1 : 0 ≤ p := by omega
  have hp2 : p ≤ 20 := by omega
  have HP : Hid (p + 1 = 21 - f) := by show _ = _; omega
  have HPP : Hid (p = 20 - f) := hp
  have H : Hid (BRow w b off len cap zs) := h
  have HI : Hid _ := hI
  have HZ : Hid (zs.length = len) := hz
  have HT : Hid (Tab w) := hT
  have IH : Hid (GetsTy f) := ih
  have HG : Hid _ := hG
  have HY : Hid _ := hY
  clear hG hY
  clear h hz hT ih hI hp
  go_enter Tryd.func85, Tryd.ntmps85
  go_wp2_with fail
  refine (bget (H.out.old (below_one _ _)) 2 (by omega) (by omega) (by omega) _ rfl).mono ?_
  rintro e w1 ⟨off1, rfl, hR1, hB1⟩
  rw [HI.out]
  have HR1 : Hid (BRow w1 b off1 (len - 2) (cap - 2) (zs.drop 2)) := hR1
  have hs1 : w.heap.size < w1.heap.size := by have := hB1.size; simp at this; omega
  have hbw : b < w1.heap.size := by omega
  have HT1 : Hid (Tab w1) := HT.out.old ((below_one w _).trans (hB1.mono (by simp)))
  clear hR1
  go_wp2_with fail
  refine (getTuple_any f (by omega) IH.out (HR1.out.old (below_one _ _)) (by simp; omega) (HT1.out.old (below_one _ _)) (by omega) HG.out _ HPP.out).mono ?_
  rintro e w2 ⟨vk, r2, lr2, cr2, rfl, HOK, HB2, hB2⟩
  obtain ⟨ak, ck, hvk, hSk⟩ := (HOK.out).sees
  obtain ⟨lk, hlk⟩ : ∃ lk, lk = G.val.length := ⟨_, rfl⟩
  rw [← hlk] at hvk hSk
  subst hvk
  have HSK : Hid (Sees 5 (fun q => w1.heap.size + 1 ≤ q ∧ q < w2.heap.size) (VT f (fun q => w1.heap.size + 1 ≤ q ∧ q < w2.heap.size) w2) w2 ak lk ck G.val) := by show Sees _ _ _ _ _ _ _ _; simpa using hSk
  clear hSk hlk
  have hB2w : Below w1.heap.size w1 w2 := (below_one w1 _).trans (hB2.mono (by simp))
  obtain ⟨hc2, hf2⟩ := bcell hB2
  have hs2 : w1.heap.size < w2.heap.size := by have := hB2.size; simp at this; omega
  obtain ⟨w3, hw3⟩ : ∃ w3, w3 = w2.setCell ⟨w1.heap.size, 4, .none⟩ (.slice ak lk ck) := ⟨_, rfl⟩
  have hL3 : w2.setCell ⟨w1.heap.size, 4, .none⟩ (.slice ak lk ck) = w3 := hw3.symm
  have hB13 : Below w1.heap.size w1 w3 := by rw [hw3]; exact hB2w.setCell (p := ⟨w1.heap.size, 4, .none⟩) (Nat.le_refl _) _
  have hBx : Below (w.alloc (.cells #[.int .u16 0, .string ⟨#[]⟩, .string ⟨#[]⟩, .slice none 0 0, .slice none 0 0] 62)).heap.size (w.alloc (.cells #[.int .u16 0, .string ⟨#[]⟩, .string ⟨#[]⟩, .slice none 0 0, .slice none 0 0] 62)) w3 := hB1.trans (hB13.mono hB1.size)
  have hs3 : w2.heap.size ≤ w3.heap.size := by rw [hw3]; simp
  have hs3' : w3.heap.size ≤ w2.heap.size := by rw [hw3]; simp
  have n0 : w3.cell? ⟨w1.heap.size, 0, .none⟩ = some (.int .u16 I) := by rw [hw3]; simp [go_sem, hc2, hs2]
  have n1 : w3.cell? ⟨w1.heap.size, 1, .none⟩ = some (.string ⟨#[]⟩) := by rw [hw3]; simp [go_sem, hc2, hs2]
  have n2 : w3.cell? ⟨w1.heap.size, 2, .none⟩ = some (.string ⟨#[]⟩) := by rw [hw3]; simp [go_sem, hc2, hs2]
  have n3 : w3.cell? ⟨w1.heap.size, 3, .none⟩ = some (.slice none 0 0) := by rw [hw3]; simp [go_sem, hc2, hs2]
  have n4 : w3.cell? ⟨w1.heap.size, 4, .none⟩ = some (.slice ak lk ck) := by rw [hw3]; simp [go_sem, hc2, hs2]
  have HW3 : Hid _ := hw3
  clear hw3
  by_cases he : G.err = 0
  · rw [he]
    obtain ⟨hc, hf⟩ := bcell hBx
    have hs : w.heap.size < w3.heap.size := by omega
    have HYE : Hid (Y = ⟨⟨I, ⟨#[]⟩, ⟨#[]⟩, [], G.val⟩, 2 + G.done, 0⟩) := by show _ = _; rw [HY.out, if_pos he]
    go_wp2_with fail
    refine bodyPost_ret (v := .tuple #[.agg #[.int .u16 I, .string ⟨#[]⟩, .string ⟨#[]⟩, .slice none 0 0, .slice ak lk ck], .slice r2 lr2 cr2, .int .i64 0]) (by simp [results, Tryd.results85, go_sem, hc, hs]) rfl
      ⟨r2, lr2, cr2, none, 0, 0, ak, lk, ck, by rw [HYE.out], ?_, ?_, (((below_one w _).trans (hBx.mono (by simp))).trans ((below_five _ _ _ _ _ _ _).mono (Nat.le_refl _)))⟩
    · rw [HYE.out]
      refine ⟨⟨hI0, hI1⟩, by unfold maxLen; show 0 ≤ _; omega, by unfold maxLen; show 0 ≤ _; omega, sees_nil _ _ _ _, ?_⟩
      have hkb : ∀ q, w1.heap.size + 1 ≤ q → w3.heap[q]? = w2.heap[q]? := fun q hq => by rw [HW3.out]; exact Below.heap_setCell _ _ _ _ (by show q ≠ w1.heap.size; omega)
      refine HSK.out.mono (fun q hq hF => ?_) (by simp; omega) (fun _ _ _ hh => VT.mono (fun q hq hF => ?_) (by simp; omega) hh)
      · have := five_new (w := w) (wx := w3) (q := q) (base := w1.heap.size + 1) (a := .int .u16 I) (b := .string ⟨#[]⟩) (c := .string ⟨#[]⟩) (d := .slice none 0 0) (e := .slice ak lk ck) (by omega) hF.1 (by omega)
        exact ⟨this.1, this.2.trans (hkb q hF.1)⟩
      · have := five_new (w := w) (wx := w3) (q := q) (base := w1.heap.size + 1) (a := .int .u16 I) (b := .string ⟨#[]⟩) (c := .string ⟨#[]⟩) (d := .slice none 0 0) (e := .slice ak lk ck) (by omega) hF.1 (by omega)
        exact ⟨this.1, this.2.trans (hkb q hF.1)⟩
    · rw [HYE.out]
      have hrest := (show Rest w2 b r2 lr2 cr2 (zs.drop 2) G.done G.err from HB2.out)
      rw [he] at hrest
      refine rest_drop (by have := HZ.out; omega) ?_
      refine (hrest.below (W := w3) (base := w1.heap.size) (by rw [HW3.out]; exact (Below.refl _ _).setCell (p := ⟨w1.heap.size, 4, .none⟩) (Nat.le_refl _) _) hbw).below (base := w.heap.size) (below_five _ _ _ _ _ _ _) hb
  · have te : (G.err == 0) = false := by simpa using he
    have HE : Hid (Y = ⟨tyNil, 0, G.err⟩) := by show _ = _; rw [HY.out, if_neg he]
    have HNE : Hid (G.err ≠ 0) := he
    clear he
    obtain ⟨hc, hf⟩ := bcell hBx
    have hs : w.heap.size < w3.heap.size := by have := hBx.size; simp at this; omega
    go_wp2_with fail
    exact bodyPost_ret (v := .tuple #[.agg #[.int .u16 0, .string ⟨#[]⟩, .string ⟨#[]⟩, .slice none 0 0, .slice none 0 0], .slice none 0 0, .int .i64 G.err]) (by simp [results, Tryd.results85, go_sem, hc, hs]) rfl (gotTy_err HE.out HNE.out (((below_one w _).trans (hBx.mono (by simp))).trans ((below_five _ _ _ _ _ _ _).mono (Nat.le_refl _))))

set_option maxHeartbeats 2000000 in
theorem getType_udt (f : Nat) (hf19 : f ≤ 19) (ih : GetsTy f) {w : World} {b off len cap : Nat} {zs : List Int} (h : BRow w b off len cap zs) (hb : b < w.heap.size) (hT : Tab w) (hsm : len ≤ 140737488351232) (hl : 2 ≤ len) (I : Int) (hI : numTo zs 2 = I) (hI0 : 0 ≤ I) (hI1 : I < 65536) (q0 : (I == 0) = false) (q1 : (I == 32) = false) (q2 : (I == 34) = false) (q3 : (I == 33) = false) (q4 : (I == 48) = true) (p : Int) (hp : p = 20 - f) {G : Res Ty} (hG : G = udtR (tyR f) (zs.drop 2)) {Y : Res Ty} (hY : Y = if G.err = 0 then ⟨G.val, 2 + G.done, 0⟩ else ⟨tyNil, 0, G.err⟩) (hGN : G.err ≠ 0 → G.val = tyNil) :
    Calls Tryd.prog 85 #[.slice (some ⟨b, off, none⟩) len cap, .int .i64 p] w (GotTy f w b zs Y) := by
  have hz := h.len_eq
  have hd : decide ((20 : Int) < p) = false := by simp; omega
  have hp1 : 0 ≤ p := by omega
  have hp2 : p ≤ 20 := by omega
  have HP : Hid (p + 1 = 21 - f) := by show _ = _; omega
  have HPP : Hid (p = 20 - f) := hp
  have H : Hid (BRow w b off len cap zs) := h
  have HI : Hid _ := hI
  have HZ : Hid (zs.length = len) := hz
  have HT : Hid (Tab w) := hT
  have IH : Hid (GetsTy f) := ih
  have HG : Hid _ := hG
  have HY : Hid _ := hY
  have HGN : Hid _ := hGN
  clear hG hY hGN
  clear h hz hT ih hI hp
  go_enter Tryd.func85, Tryd.ntmps85
  go_wp2_with fail
  refine (bget (H.out.old (below_one _ _)) 2 (by omega) (by omega) (by omega) _ rfl).mono ?_
  rintro e w1 ⟨off1, rfl, hR1, hB1⟩
  rw [HI.out]
  have HR1 : Hid (BRow w1 b off1 (len - 2) (cap - 2) (zs.drop 2)) := hR1
  have hs1 : w.heap.size < w1.heap.size := by have := hB1.size; simp at this; omega
  have hbw : b < w1.heap.size := by omega
  have HT1 : Hid (Tab w1) := HT.out.old ((below_one w _).trans (hB1.mono (by simp)))
  clear hR1
  go_wp2_with fail
  refine (getUdt_any f (by omega) IH.out (HR1.out.old (below_one _ _)) (by simp; omega) (HT1.out.old (below_one _ _)) (by omega) HG.out _ HPP.out).mono ?_
  rintro e w2 ⟨r2, lr2, cr2, na, nl, nc, ka, kl, kc, rfl, HTY, HB2, hB2⟩
  have hB2w : Below w1.heap.size w1 w2 := (below_one w1 _).trans (hB2.mono (by simp))
  have hs2 : w1.heap.size < w2.heap.size := by have := hB2.size; simp at this; omega
  have hBx : Below (w.alloc (.cells #[.int .u16 0, .string ⟨#[]⟩, .string ⟨#[]⟩, .slice none 0 0, .slice none 0 0] 62)).heap.size (w.alloc (.cells #[.int .u16 0, .string ⟨#[]⟩, .string ⟨#[]⟩, .slice none 0 0, .slice none 0 0] 62)) w2 := hB1.trans (hB2w.mono hB1.size)
  obtain ⟨hc, hf⟩ := bcell hBx
  have hs : w.heap.size < w2.heap.size := by omega
  have HYV : Hid (Y.val = G.val ∧ Y.err = G.err) := by
    show _ ∧ _
    rw [HY.out]
    split
    · rename_i he; exact ⟨rfl, he.symm⟩
    · rename_i he; exact ⟨(HGN.out he).symm, rfl⟩
  go_wp2_with fail
  refine bodyPost_ret (v := .tuple #[.agg #[.int .u16 G.val.id, .string G.val.space, .string G.val.name, .slice na nl nc, .slice ka kl kc], .slice r2 lr2 cr2, .int .i64 G.err]) (by simp [results, Tryd.results85, go_sem, hc, hs]) rfl
    ⟨r2, lr2, cr2, na, nl, nc, ka, kl, kc, by rw [HYV.out.1, HYV.out.2], ?_, ?_, (((below_one w _).trans (hBx.mono (by simp))).trans ((below_five _ _ _ _ _ _ _).mono (Nat.le_refl _)))⟩
  · rw [HYV.out.1]
    refine HTY.out.mono (fun q hq hF => ?_) (by simp)
    have hF1 : w1.heap.size + 1 ≤ q := by have := hF.1; simpa using this
    exact five_new (base := w1.heap.size + 1) (by omega) hF1 (by omega)
  · have hrest : Rest w2 b r2 lr2 cr2 (zs.drop 2) G.done G.err := HB2.out
    by_cases he : G.err = 0
    · rw [HY.out, if_pos he]
      rw [he] at hrest
      exact (rest_drop (by have := HZ.out; omega) hrest).below (base := w.heap.size) (below_five _ _ _ _ _ _ _) hb
    · rw [HY.out, if_neg he]
      rcases hrest with ⟨h1, h2⟩ | ⟨h1, _⟩
      · exact .inl ⟨he, h2⟩
      · exact absurd h1 he

set_option maxHeartbeats 2000000 in
theorem getType_else (f : Nat) (hf19 : f ≤ 19) (ih : GetsTy f) {w : World} {b off len cap : Nat} {zs : List Int} (h : BRow w b off len cap zs) (hb : b < w.heap.size) (hT : Tab w) (hsm : len ≤ 140737488351232) (hl : 2 ≤ len) (I : Int) (hI : numTo zs 2 = I) (hI0 : 0 ≤ I) (hI1 : I < 65536) (q0 : (I == 0) = false) (q1 : (I == 32) = false) (q2 : (I == 34) = false) (q3 : (I == 33) = false) (q4 : (I == 48) = false) (q5 : (I == 49) = false) (p : Int) (hp : p = 20 - f) {d : Bool} (hd1 : d = plainB I) {Y : Res Ty} (hY : Y = if d = true then ⟨⟨I, ⟨#[]⟩, ⟨#[]⟩, [], []⟩, 2, 0⟩ else ⟨tyNil, 0, 11⟩) :
    Calls Tryd.prog 85 #[.slice (some ⟨b, off, none⟩) len cap, .int .i64 p] w (GotTy f w b zs Y) := by
  have hz := h.len_eq
  have hd : decide ((20 : Int) < p) = false := by simp; omega
  have hp1 : 0 ≤ p := by omega
  have hp2 : p ≤ 20 := by omega
  have HP : Hid (p + 1 = 21 - f) := by show _ = _; omega
  have HPP : Hid (p = 20 - f) := hp
  have H : Hid (BRow w b off len cap zs) := h
  have HI : Hid _ := hI
  have HZ : Hid (zs.length = len) := hz
  have HT : Hid (Tab w) := hT
  have IH : Hid (GetsTy f) := ih
  have HD : Hid _ := hd1
  have HY : Hid _ := hY
  clear hd1 hY
  clear h hz hT ih hI hp
  go_enter Tryd.func85, Tryd.ntmps85
  go_wp2_with fail
  refine (bget (H.out.old (below_one _ _)) 2 (by omega) (by omega) (by omega) _ rfl).mono ?_
  rintro e w1 ⟨off1, rfl, hR1, hB1⟩
  rw [HI.out]
  have HR1 : Hid (BRow w1 b off1 (len - 2) (cap - 2) (zs.drop 2)) := hR1
  have hs1 : w.heap.size < w1.heap.size := by have := hB1.size; simp at this; omega
  have hbw : b < w1.heap.size := by omega
  have HT1 : Hid (Tab w1) := HT.out.old ((below_one w _).trans (hB1.mono (by simp)))
  clear hR1
  go_wp2_with fail
  refine (isPlain_any _ (HT1.out.old (below_one _ _)) I hI0 hI1 HD.out).mono ?_
  rintro e w2 ⟨rfl, rfl⟩
  have hBx : Below (w.alloc (.cells #[.int .u16 0, .string ⟨#[]⟩, .string ⟨#[]⟩, .slice none 0 0, .slice none 0 0] 62)).heap.size (w.alloc (.cells #[.int .u16 0, .string ⟨#[]⟩, .string ⟨#[]⟩, .slice none 0 0, .slice none 0 0] 62)) w1 := hB1
  obtain ⟨hc, hf⟩ := bcell hBx
  cases d with
  | true =>
    have HYE : Hid (Y = ⟨⟨I, ⟨#[]⟩, ⟨#[]⟩, [], []⟩, 2, 0⟩) := HY.out
    go_wp2_with fail
    refine bodyPost_ret (v := .tuple #[.agg #[.int .u16 I, .string ⟨#[]⟩, .string ⟨#[]⟩, .slice none 0 0, .slice none 0 0], .slice (some ⟨b, off1, none⟩) (len - 2) (cap - 2), .int .i64 0]) (by simp [results, Tryd.results85, go_sem, hc, hs1]) rfl
      ⟨_, _, _, none, 0, 0, none, 0, 0, by rw [HYE.out], ?_, ?_, ?_⟩
    · rw [HYE.out]
      exact ⟨⟨hI0, hI1⟩, by unfold maxLen; show 0 ≤ _; omega, by unfold maxLen; show 0 ≤ _; omega, sees_nil _ _ _ _, sees_nil _ _ _ _⟩
    · rw [HYE.out]
      exact .inr ⟨rfl, (by have := HZ.out; show 2 ≤ _; omega), off1, rfl, (HR1.out.below (base := w.heap.size) (below_five _ _ _ _ _ _ _) (fun _ => hb)).old (below_one _ _)⟩
    · exact ((below_one w _).trans (hB1.mono (by simp))).trans ((below_five _ _ _ _ _ _ _).alloc (by rw [five_size]; omega) _)
  | false =>
    have HE : Hid (Y = ⟨tyNil, 0, 11⟩) := HY.out
    go_wp2_with fail
    refine bodyPost_ret (v := .tuple #[.agg #[.int .u16 0, .string ⟨#[]⟩, .string ⟨#[]⟩, .slice none 0 0, .slice none 0 0], .slice none 0 0, .int .i64 11]) (by simp [results, Tryd.results85, go_sem, hc, hs1]) rfl (gotTy_err HE.out (by decide) ?_)
    exact ((below_one w _).trans (hB1.mono (by simp))).trans ((below_five _ _ _ _ _ _ _).alloc (by rw [five_size]; omega) _)

theorem udtR_nil (q : List Int → Res Ty) (zs : List Int) : (udtR q zs).err ≠ 0 → (udtR q zs).val = tyNil := by
  unfold udtR
  split
  · split
    · split
      · intro _; rfl
      · simp only
        split
        · intro h; exact absurd rfl h
        · intro _; rfl
    · intro _; rfl
  · intro _; rfl

theorem rest_behind {w : World} {b off : Nat} {r : Option Addr} {lr cr : Nat} {zs : List Int} {d : Nat} {er : Int} (h : Rest w b r lr cr zs d er) (hz : 0 < zs.length) (hb : b < w.heap.size) : Behind w (some ⟨b, off, none⟩) r lr cr zs d er := by
  rcases h with h | ⟨h1, h2, o, h3, h4⟩
  · exact .inl h
  · exact .inr ⟨h1, h2, hz, b, off, o, rfl, h3, hb, h4⟩

theorem getType_step (f : Nat) (hf : f ≤ 19) (ih : GetsTy f) : GetsTy (f + 1) := by
  intro w a len cap zs h hT hsm X hX p hp
  have hp' : p = 20 - f := by omega
  by_cases hl : len < 2
  · have hX2 : X = ⟨tyNil, 0, 10⟩ := by rw [hX, tyR, if_pos (by rw [h.1]; exact hl)]
    subst hX2
    refine (getType_short w a len cap zs hl p (by omega) (by omega)).mono ?_
    rintro e w' ⟨rfl, hB⟩
    exact ⟨none, 0, 0, none, 0, 0, none, 0, 0, rfl, tyAt_nil _ _ _, .inl ⟨by decide, rfl⟩, hB⟩
  · obtain ⟨b, off, rfl, hR⟩ := h.2.2.2.2 (by omega)
    have hb := hR.lt (by omega)
    have hz : zs.length = len := h.1
    obtain ⟨I, hI⟩ : ∃ I, numTo zs 2 = I := ⟨_, rfl⟩
    have hb1 := numTo_bound zs hR.rng 2 (by omega)
    rw [hI, show (256 : Int) ^ 2 = 65536 by decide] at hb1
    have fin : Calls Tryd.prog 85 #[.slice (some ⟨b, off, none⟩) len cap, .int .i64 p] w (GotTy f w b zs X) → Calls Tryd.prog 85 #[.slice (some ⟨b, off, none⟩) len cap, .int .i64 p] w fun e w' => ∃ r lr cr na nl nc ka kl kc, e = .returned (.tuple #[.agg #[.int .u16 X.val.id, .string X.val.space, .string X.val.name, .slice na nl nc, .slice ka kl kc], .slice r lr cr, .int .i64 X.err]) ∧
        Hid (TyAt (f + 1 - 1) (New w.heap.size w') w' X.val na nl nc ka kl kc) ∧ Hid (Behind w' (some ⟨b, off, none⟩) r lr cr zs X.done X.err) ∧ Below w.heap.size w w' := by
      intro hc
      refine hc.mono ?_
      rintro e w' ⟨r, lr, cr, na, nl, nc, ka, kl, kc, rfl, h1, h2, h3⟩
      exact ⟨r, lr, cr, na, nl, nc, ka, kl, kc, rfl, h1, rest_behind h2.out (by omega) (Nat.lt_of_lt_of_le hb h3.size), h3⟩
    apply fin
    rw [tyR, if_neg (by omega)] at hX
    simp only [hI] at hX
    by_cases h0 : I = 0
    · rw [if_pos h0] at hX
      exact getType_custom f hf ih hR hb hT hsm (by omega) I hI hb1.1 hb1.2 (by simp [h0]) p hp' rfl (by rw [hX, h0])
    rw [if_neg h0] at hX
    have q0 : (I == 0) = false := by simpa using h0
    by_cases h48 : I = 48
    · rw [if_pos h48] at hX
      exact getType_udt f hf ih hR hb hT hsm (by omega) I hI hb1.1 hb1.2 q0 (by simp [h48]) (by simp [h48]) (by simp [h48]) (by simp [h48]) p hp' rfl hX (udtR_nil _ _)
    rw [if_neg h48] at hX
    have q48 : (I == 48) = false := by simpa using h48
    by_cases h32 : I = 32
    · rw [if_pos (.inl h32)] at hX
      rw [if_neg (show ¬ I = 49 by omega), if_neg (show ¬ I = 33 by omega)] at hX
      exact getType_list f hf ih hR hb hT hsm (by omega) I hI hb1.1 hb1.2 q0 (by simp [h32]) p hp' rfl hX
    have q32 : (I == 32) = false := by simpa using h32
    by_cases h34 : I = 34
    · rw [if_pos (.inr (.inl h34))] at hX
      rw [if_neg (show ¬ I = 49 by omega), if_neg (show ¬ I = 33 by omega)] at hX
      exact getType_set f hf ih hR hb hT hsm (by omega) I hI hb1.1 hb1.2 q0 q32 (by simp [h34]) p hp' rfl hX
    have q34 : (I == 34) = false := by simpa using h34
    by_cases h33 : I = 33
    · rw [if_pos (.inr (.inr (.inl h33)))] at hX
      rw [if_neg (show ¬ I = 49 by omega), if_pos h33] at hX
      exact getType_map f hf ih hR hb hT hsm (by omega) I hI hb1.1 hb1.2 q0 q32 q34 (by simp [h33]) p hp' rfl hX
    have q33 : (I == 33) = false := by simpa using h33
    by_cases h49 : I = 49
    · rw [if_pos (.inr (.inr (.inr h49)))] at hX
      rw [if_pos h49] at hX
      exact getType_tuple f hf ih hR hb hT hsm (by omega) I hI hb1.1 hb1.2 q0 q32 q34 q33 q48 (by simp [h49]) p hp' rfl hX
    have q49 : (I == 49) = false := by simpa using h49
    rw [if_neg (by omega)] at hX
    exact getType_else f hf ih hR hb hT hsm (by omega) I hI hb1.1 hb1.2 q0 q32 q34 q33 q48 q49 p hp' rfl hX

theorem getType_any (f : Nat) (hf : f ≤ 20) : GetsTy f := by
  induction f with
  | zero =>
    intro w a len cap zs h hT hsm X hX p hp
    obtain rfl : X = ⟨tyNil, 0, 13⟩ := hX
    refine (getType_deep w a len cap zs p (by omega)).mono ?_
    rintro e w' ⟨rfl, hB⟩
    exact ⟨none, 0, 0, none, 0, 0, none, 0, 0, rfl, tyAt_nil _ _ _, .inl ⟨by decide, rfl⟩, hB⟩
  | succ f ih => exact getType_step f (by omega) (ih (by omega))

set_option maxHeartbeats 1000000 in
theorem Get_any {w : World} {a : Option Addr} {len cap : Nat} {zs : List Int} (h : IsB w a len cap zs) (hT : Tab w) (hsm : len ≤ 140737488351232) {X : Res Ty} (hX : X = tyR 20 zs) :
    Calls Tryd.prog 73 #[.slice a len cap] w fun e w' => ∃ r lr cr na nl nc ka kl kc, e = .returned (.tuple #[.agg #[.int .u16 X.val.id, .string X.val.space, .string X.val.name, .slice na nl nc, .slice ka kl kc], .slice r lr cr, .int .i64 X.err]) ∧
      Hid (TyAt 19 (New w.heap.size w') w' X.val na nl nc ka kl kc) ∧ Hid (Behind w' a r lr cr zs X.done X.err) ∧ Below w.heap.size w w' := by
  have H : Hid (IsB w a len cap zs) := h
  have HT : Hid (Tab w) := hT
  have HX : Hid _ := hX
  clear h hT hX
  go_enter Tryd.func73, Tryd.ntmps73
  go_wp2_with fail
  refine (getType_any 20 (by omega) _ a len cap zs (H.out.old (below_one _ _)) (HT.out.old (below_one _ _)) hsm X HX.out 1 rfl).mono ?_
  rintro e w2 ⟨r2, lr2, cr2, na, nl, nc, ka, kl, kc, rfl, HTY, HB2, hB2⟩
  have hs2 : w.heap.size < w2.heap.size := by have := hB2.size; simp at this; omega
  obtain ⟨hc, hf⟩ := bcell hB2
  go_wp2_with fail
  refine bodyPost_ret (v := .tuple #[.agg #[.int .u16 X.val.id, .string X.val.space, .string X.val.name, .slice na nl nc, .slice ka kl kc], .slice r2 lr2 cr2, .int .i64 X.err]) (by simp [results, Tryd.results73, go_sem, hc, hs2]) rfl
    ⟨r2, lr2, cr2, na, nl, nc, ka, kl, kc, rfl, ?_, ?_, (((below_one w _).trans (hB2.mono (by simp))).trans ((below_five _ _ _ _ _ _ _).mono (Nat.le_refl _)))⟩
  · refine HTY.out.mono (fun q hq hF => ?_) (by simp)
    have hF1 : w.heap.size + 1 ≤ q := by have := hF.1; simpa using this
    exact five_new (base := w.heap.size + 1) (by omega) hF1 hq
  · rcases HB2.out with h | ⟨h1, h2, h3, b, o, of, h4, h5, h6, h7⟩
    · exact .inl h
    · subst h4
      have hbb : b < w.heap.size := H.out.2.2.2.2 (by have := H.out.1; omega) |>.elim fun b' hh => hh.elim fun o' h8 => by
        obtain ⟨h9, h10⟩ := h8
        cases h9
        exact h10.lt (by have := H.out.1; omega)
      exact .inr ⟨h1, h2, h3, b, o, of, rfl, h5, by show b < (five _ _ _ _ _ _ _).heap.size; rw [five_size]; exact h6, h7.below (base := w.heap.size) (below_five _ _ _ _ _ _ _) (fun _ => hbb)⟩
end Go.Proofs.YtnapeecmlkkolaaDoor
