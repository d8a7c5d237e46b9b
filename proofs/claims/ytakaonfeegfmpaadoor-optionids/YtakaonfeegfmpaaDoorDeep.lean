/-
  The walk of OptionDeep.
-/
import Derived.Test.YtakaonfeegfmpaaDoorAwake
namespace Go.Proofs.YtakaonfeegfmpaaDoor
open Go.RowKit
set_option linter.unusedVariables false
set_option linter.unusedSimpArgs false

/-- Types within one another. -/
def nest (id : Int) : Nat → Ty
  | 0 => plainTy 9
  | k + 1 => ofOne id (nest id k)
def nestB (pre : List Int) : Nat → List Int
  | 0 => [0, 9]
  | k + 1 => pre ++ nestB pre k

theorem nest_put32 : ∀ k : Fin 40, putR k.val (nest 32 k.val) = if k.val < 20 then (nestB [0, 32] k.val, 0) else ([], 13) := by decide +kernel
theorem nest_put49 : ∀ k : Fin 40, putR k.val (nest 49 k.val) = if k.val < 20 then (nestB [0, 49, 0, 1] k.val, 0) else ([], 13) := by decide +kernel
theorem nest_text32 : ∀ k : Fin 40, (textT k.val (nest 32 k.val)).2 = if k.val < 20 then 0 else 13 := by decide +kernel
theorem nest_text49 : ∀ k : Fin 40, (textT k.val (nest 49 k.val)).2 = if k.val < 20 then 0 else 13 := by decide +kernel
theorem nest_get32 : ∀ k : Fin 40, (tyR 20 (nestB [0, 32] k.val)).err = (if k.val < 20 then 0 else 13) ∧ (k.val < 20 → (tyR 20 (nestB [0, 32] k.val)).done = (nestB [0, 32] k.val).length ∧ (tyR 20 (nestB [0, 32] k.val)).val.id = (nest 32 k.val).id) := by decide +kernel
theorem nest_get49 : ∀ k : Fin 40, (tyR 20 (nestB [0, 49, 0, 1] k.val)).err = (if k.val < 20 then 0 else 13) ∧ (k.val < 20 → (tyR 20 (nestB [0, 49, 0, 1] k.val)).done = (nestB [0, 49, 0, 1] k.val).length ∧ (tyR 20 (nestB [0, 49, 0, 1] k.val)).val.id = (nest 49 k.val).id) := by decide +kernel
theorem nest_w32 : ∀ k : Fin 40, wgt (k.val + 1) (nest 32 k.val) ≤ 140737488355328 ∧ tlen (k.val + 1) (nest 32 k.val) ≤ 17592186044416 := by decide +kernel
theorem nest_w49 : ∀ k : Fin 40, wgt (k.val + 1) (nest 49 k.val) ≤ 140737488355328 ∧ tlen (k.val + 1) (nest 49 k.val) ≤ 17592186044416 := by decide +kernel

theorem acc_lit {w : World} {g : Nat} {X : List Int} (h : w.heap[g]? = some (.cells (X.map (Value.int .u8)).toArray 5 (0, 0))) (hl : X.length ≤ maxLen) {base : Nat} (hb : base ≤ g) : Acc w base (.slice (some ⟨g, 0, none⟩) X.length X.length) X := by
  refine ⟨by simp, .inr ⟨g, X.length, _, rfl, hb, h, Nat.le_refl _, hl, by simp, ?_⟩⟩
  simp [List.take_of_length_le]

theorem five_block {w : World} {s : Nat} {a0 b0 c0 d0 e0 : Value} (h : w.heap[s]? = some (.cells #[a0, b0, c0, d0, e0] 26 (0, 0))) (a b c d e : Value) : (five w s a b c d e).heap[s]? = some (.cells #[a, b, c, d, e] 26 (0, 0)) := by
  have h1 := heap_setCell_same w s 0 _ 26 a h
  have h2 := heap_setCell_same _ s 1 _ 26 b h1
  have h3 := heap_setCell_same _ s 2 _ 26 c h2
  have h4 := heap_setCell_same _ s 3 _ 26 d h3
  have h5 := heap_setCell_same _ s 4 _ 26 e h4
  exact h5

theorem u8_and1 (x : Int) (h0 : 0 ≤ x) (h1 : x < 256) : bits .and .u8 x 1 = x % 2 := bits_mask .u8 8 (by decide) wraps_u8 1 (by decide) x h0 h1

theorem nest_texts (id : Int) (k : Nat) : (nest id k).space = ⟨#[]⟩ ∧ (nest id k).name = ⟨#[]⟩ := by cases k <;> exact ⟨rfl, rfl⟩

theorem Put_nest {id : Int} {k : Nat} {F : Nat → Prop} {w : World} {ka : Option Addr} {kl kc : Nat} (h : TyAt k F w (nest id k) none 0 0 ka kl kc) (hT : Tab w) (hbd : wgt (k + 1) (nest id k) ≤ 140737488355328) {B : List Int × Int} (hB : B = putR k (nest id k)) {I : Int} (hI : I = (nest id k).id) :
    Calls Tryd.prog 12 #[.agg #[.int .u16 I, .string ⟨#[]⟩, .string ⟨#[]⟩, .slice none 0 0, .slice ka kl kc]] w fun e w' => ∃ v, e = .returned (.tuple #[v, .int .i64 B.2]) ∧ Hid (Acc w' w.heap.size v B.1) ∧ Below w.heap.size w w' := by
  have := Put_any h hT hbd hB
  rw [(nest_texts id k).1, (nest_texts id k).2, ← hI] at this
  exact this

theorem Text_nest {id : Int} {k : Nat} {F : Nat → Prop} {w : World} {ka : Option Addr} {kl kc : Nat} (h : TyAt k F w (nest id k) none 0 0 ka kl kc) (hT : Tab w) (hbd : tlen (k + 1) (nest id k) ≤ 17592186044416) {R : ByteArray × Int} (hR : R = textT k (nest id k)) {I : Int} (hI : I = (nest id k).id) :
    Calls Tryd.prog 14 #[.agg #[.int .u16 I, .string ⟨#[]⟩, .string ⟨#[]⟩, .slice none 0 0, .slice ka kl kc]] w fun e w' => e = .returned (.tuple #[.string R.1, .int .i64 R.2]) ∧ Below w.heap.size w w' := by
  have := Text_any h hT hbd hR
  rw [(nest_texts id k).1, (nest_texts id k).2, ← hI] at this
  exact this

theorem cells5 {w : World} {s : Nat} {a b c d e : Value} (h : w.heap[s]? = some (.cells #[a, b, c, d, e] 26 (0, 0))) : w.cell? ⟨s, 0, none⟩ = some a ∧ w.cell? ⟨s, 1, none⟩ = some b ∧ w.cell? ⟨s, 2, none⟩ = some c ∧ w.cell? ⟨s, 3, none⟩ = some d ∧ w.cell? ⟨s, 4, none⟩ = some e := by
  refine ⟨?_, ?_, ?_, ?_, ?_⟩ <;> (rw [Lib.cell_of_heap h]; rfl)
theorem frozen5 {w : World} {s : Nat} {cs : Array Value} (h : w.heap[s]? = some (.cells cs 26 (0, 0))) : w.frozen? ⟨s, 0, none⟩ = false ∧ w.frozen? ⟨s, 1, none⟩ = false ∧ w.frozen? ⟨s, 2, none⟩ = false ∧ w.frozen? ⟨s, 3, none⟩ = false ∧ w.frozen? ⟨s, 4, none⟩ = false := by
  refine ⟨?_, ?_, ?_, ?_, ?_⟩ <;> simp [World.frozen?, h]

theorem Acc.keep {w W : World} {base : Nat} {v : Value} {X : List Int} (h : Acc w base v X) (hb : ∀ k, v.ownBlock = some k → W.heap[k]? = w.heap[k]?) : Acc W base v X := ownsRow_keep h hb

theorem nestB_range {pre : List Int} (hp : ∀ z ∈ pre, 0 ≤ z ∧ z ≤ 255) : ∀ (k : Nat) (j : Nat), 0 ≤ (nestB pre k)[j]?.getD 0 ∧ (nestB pre k)[j]?.getD 0 ≤ 255
  | 0, j => by rcases j with _ | _ | j <;> simp [nestB]
  | k + 1, j => by
    refine range_append (fun j => ?_) (nestB_range hp k) j
    by_cases hj : j < pre.length
    · rw [List.getElem?_eq_getElem hj]; exact hp _ (List.getElem_mem _)
    · rw [List.getElem?_eq_none (by omega)]; simp

theorem nestB_len {pre : List Int} : ∀ k : Nat, (nestB pre k).length = 2 + k * pre.length
  | 0 => by simp [nestB]
  | k + 1 => by rw [nestB, List.length_append, nestB_len k, Nat.succ_mul]; omega

set_option maxHeartbeats 2000000 in
theorem deep32 (w : World) (hT : Tab w) (n kd : Int) (K : Nat) (hn0 : 0 ≤ n) (hn1 : n ≤ 255) (hK : n % 40 = K) (hk0 : 0 ≤ kd) (hk1 : kd ≤ 255) (hq : kd % 2 = 0) :
    Calls Tryd.prog 6 #[.int .u8 n, .int .u8 kd] w fun e w' => e = .returned (.bool true) ∧ Below w.heap.size w w' := by
  have HT : Hid (Tab w) := hT
  have hK1 : K < 40 := by omega
  have hand : bits .and .u8 kd 1 = 0 := by rw [u8_and1 kd hk0 (by omega), hq]
  clear hT hq
  go_enter Tryd.func6, Tryd.ntmps6
  go_wp2_with fail
  refine (awake_any w HT.out).mono ?_
  rintro e w1 ⟨rfl, hB1⟩
  go_wp2_with fail
  clear hK
  go_loopw [8, 9] (fun v i wr => ∃ (k : Nat) (ka : Option Addr) (kl kc : Nat) (va : Option Addr) (L vc : Nat) (I : Int), k ≤ K ∧ i = .int .i64 k ∧ v = .slice va L vc ∧ Hid (I = (nest 32 k).id) ∧ Hid (wr.heap[w1.heap.size]? = some (.cells #[.int .u16 I, .string ⟨#[]⟩, .string ⟨#[]⟩, .slice none 0 0, .slice ka kl kc] 26 (0, 0))) ∧
      Hid (L = (nestB [0, 32] k).length) ∧ Hid (Acc wr (w1.heap.size + 1) (.slice va L vc) (nestB [0, 32] k)) ∧ Hid (TyAt k (fun q => w1.heap.size < q) wr (nest 32 k) none 0 0 ka kl kc) ∧ Below w1.heap.size w1 wr ∧ w1.heap.size < wr.heap.size) (fun _ i _ => K - (intOf i).toNat)
  case atStart =>
    refine ⟨0, none, 0, 0, _, 2, 2, 9, by omega, rfl, rfl, rfl, ?_, rfl, ?_, tyAt_plain 0 _ _ 9 (by decide) (by decide), (below_one _ _).alloc (by simp) _, by simp; omega⟩
    · show _ = _
      rw [(below_one (w1.alloc _) _).block _ (by simp)]
      exact heap_alloc_new w1 _
    · exact acc_lit (X := [0, 9]) (two_new _ _ _ _) (by unfold maxLen; decide) (Nat.le_refl _)
  case round =>
    obtain ⟨k, ka, kl, kc, va, L, vc, I, hk, rfl, rfl, HI, HBX, HL, HA, HTY, hB, hsz⟩ := hrel
    obtain ⟨c0, c1, c2, c3, c4⟩ := cells5 HBX.out
    obtain ⟨f0, f1, f2, f3, f4⟩ := frozen5 HBX.out
    by_cases hlt : k < K
    · obtain ⟨w6, hw6⟩ : ∃ w6, w6 = five wr w1.heap.size (.int .u16 32) (.string ⟨#[]⟩) (.string ⟨#[]⟩) (.slice none 0 0) (.slice (some ⟨wr.heap.size, 0, none⟩) 1 1) := ⟨_, rfl⟩
      have hL6 : ((((wr.setCell ⟨w1.heap.size, 0, none⟩ (.int .u16 32)).setCell ⟨w1.heap.size, 1, none⟩ (.string ⟨#[]⟩)).setCell ⟨w1.heap.size, 2, none⟩ (.string ⟨#[]⟩)).setCell ⟨w1.heap.size, 3, none⟩ (.slice none 0 0)).setCell ⟨w1.heap.size, 4, none⟩ (.slice (some ⟨wr.heap.size, 0, none⟩) 1 1) = w6 := hw6.symm
      have hs6 : w6.heap.size = wr.heap.size := by rw [hw6]; exact five_size _ _ _ _ _ _ _
      have HB6 : Hid (w6.heap[w1.heap.size]? = some (.cells #[.int .u16 32, .string ⟨#[]⟩, .string ⟨#[]⟩, .slice none 0 0, .slice (some ⟨wr.heap.size, 0, none⟩) 1 1] 26 (0, 0))) := by show _ = _; rw [hw6]; exact five_block HBX.out _ _ _ _ _
      have hbl6 : ∀ q, q ≠ w1.heap.size → w6.heap[q]? = wr.heap[q]? := fun q hq => by rw [hw6]; exact five_heap _ _ _ _ _ _ _ q hq
      have hB6 : Below w1.heap.size w1 w6 := hB.trans (by rw [hw6]; exact below_five _ _ _ _ _ _ _)
      have HA6 : Hid (Acc w6 (w1.heap.size + 1) (.slice va L vc) (nestB [0, 32] k)) := HA.out.keep (fun q hq => hbl6 q (by have := (HA.out.lt q hq).1; omega))
      have HTY6 : Hid (TyAt k (fun q => w1.heap.size < q) w6 (nest 32 k) none 0 0 ka kl kc) := HTY.out.mono (fun q hq hF => ⟨hF, hbl6 q (by omega)⟩) (by omega)
      have hLn : L ≤ 200 := by rw [HL.out, nestB_len]; simp only [List.length_cons, List.length_nil]; omega
      have HLQ : Hid ((nestB [0, 32] k).length = L) := HL.out.symm
      clear hw6 hbl6
      go_wp2_with (at_builtin; refine wpList_append_on (base := w1.heap.size + 1) (X := [0, 32]) (zs := nestB [0, 32] k) rfl (.tmp 43) (.tmp 44) rfl rfl ?c0 rfl ?c1 ?c2 ?c3 ?_)
      case c0 =>
        refine acc_lit (X := [0, 32]) ?_ (by unfold maxLen; decide) (by omega)
        have := two_new w6 (.cells #[.int .u16 I, .string ⟨#[]⟩, .string ⟨#[]⟩, .slice none 0 0, .slice ka kl kc] 26) #[.int .u8 0, .int .u8 32] 5
        rw [hs6] at this
        exact this
      case c1 =>
        have h1 := (HA6.out.grown ((below_one w6 (.cells #[.int .u16 I, .string ⟨#[]⟩, .string ⟨#[]⟩, .slice none 0 0, .slice ka kl kc] 26)).alloc (by simp) (.cells #[.int .u8 0, .int .u8 32] 5)))
        obtain ⟨a, cp, h2, h3⟩ := isB_own h1 (nestB_range (by decide) k)
        rw [HLQ.out] at h2 h3
        cases h2
        exact h3
      case c2 => simp only [List.length_cons, List.length_nil]; omega
      case c3 => simp; omega
      intro v7 w7 HA7 hg7 hm7
      have hbl7 : ∀ q, q ≤ wr.heap.size → w7.heap[q]? = ((w6.alloc (.cells #[.int .u16 I, .string ⟨#[]⟩, .string ⟨#[]⟩, .slice none 0 0, .slice ka kl kc] 26)).alloc (.cells #[.int .u8 0, .int .u8 32] 5)).heap[q]? := fun q hq => hg7.block q (by simp; omega) (by simp [Value.ownBlock]; omega)
      have hold7 : ∀ q, q < wr.heap.size → w7.heap[q]? = w6.heap[q]? := fun q hq => by
        rw [hbl7 q (by omega)]
        exact ((below_one w6 _).alloc (by simp) _).block q (by omega)
      have hs7 := hg7.size
      simp at hs7
      have HK7 : Hid (w7.heap[wr.heap.size]? = some (.cells #[.int .u16 I, .string ⟨#[]⟩, .string ⟨#[]⟩, .slice none 0 0, .slice ka kl kc] 26 (0, 0))) := by
        show _ = _
        rw [hbl7 _ (Nat.le_refl _), (below_one (w6.alloc _) _).block _ (by simp; omega), ← hs6]
        exact heap_alloc_new w6 _
      have HTY7 : Hid (TyAt (k + 1) (fun q => w1.heap.size < q) w7 (nest 32 (k + 1)) none 0 0 (some ⟨wr.heap.size, 0, none⟩) 1 1) := by
        refine tyAt_ofOne (by decide) (by decide) ?_ (by omega) (HTY6.out.mono (fun q hq hF => ⟨hF, hold7 q (by omega)⟩) (by omega))
        rw [(nest_texts 32 k).1, (nest_texts 32 k).2, ← HI.out]
        exact HK7.out
      have HBX7 : Hid (w7.heap[w1.heap.size]? = some (.cells #[.int .u16 32, .string ⟨#[]⟩, .string ⟨#[]⟩, .slice none 0 0, .slice (some ⟨wr.heap.size, 0, none⟩) 1 1] 26 (0, 0))) := by
        show _ = _
        rw [hold7 _ hsz]; exact HB6.out
      have hB7 : Below w1.heap.size w1 w7 := (hB6.trans (((below_one w6 _).alloc (by simp) _).mono (by omega))).grown hg7 (by simp; omega) (fun q hq => by simp [Value.ownBlock] at hq; omega)
      obtain ⟨a8, c8, hv8x, _⟩ := isB_own HA7.out (nestB_range (pre := [0, 32]) (by decide) (k + 1))
      obtain ⟨L8, hL8⟩ : ∃ L8, L8 = (nestB [0, 32] (k + 1)).length := ⟨_, rfl⟩
      have HL8 : Hid _ := hL8
      have hv8 : v7 = .slice a8 (nestB [0, 32] (k + 1)).length c8 := hv8x
      clear hv8x
      rw [← hL8] at hv8
      subst hv8
      have HA8 : Hid (Acc w7 (w1.heap.size + 1) (.slice a8 L8 c8) (nestB [0, 32] (k + 1))) := HA7.out
      clear hL8 HA7 hm7 hg7 hbl7 hold7 hL6 c0 c1 c2 c3 c4 f0 f1 f2 f3 f4
      go_wp2_with fail
      go_roundw
      case rel => exact ⟨k + 1, _, _, _, a8, L8, c8, 32, by omega, by go_num, rfl, rfl, HBX7, HL8, HA8, HTY7, hB7, by omega⟩
      case measure => simp [intOf]; omega
    · obtain rfl : k = K := by omega
      obtain ⟨B, hB0⟩ : ∃ B, B = putR k (nest 32 k) := ⟨_, rfl⟩
      obtain ⟨X, hX0⟩ : ∃ X, X = tyR 20 (nestB [0, 32] k) := ⟨_, rfl⟩
      obtain ⟨R, hR0⟩ : ∃ R, R = textT k (nest 32 k) := ⟨_, rfl⟩
      have g1 := nest_put32 ⟨k, hK1⟩
      have g2 := nest_get32 ⟨k, hK1⟩
      have g3 := nest_text32 ⟨k, hK1⟩
      have g4 := nest_w32 ⟨k, hK1⟩
      simp only [← hB0, ← hX0, ← hR0] at g1 g2 g3
      have HG1 : Hid _ := g1
      have HG2 : Hid _ := g2
      have HG3 : Hid _ := g3
      have HG4 : Hid _ := g4
      have HB0 : Hid _ := hB0
      have HX0 : Hid _ := hX0
      have HR0 : Hid _ := hR0
      have HTr : Hid (Tab wr) := (HT.out.old hB1).old hB
      clear g1 g2 g3 g4 hB0 hX0 hR0 f0 f1 f2 f3 f4
      go_wp2_with fail
      refine (Put_nest HTY.out HTr.out HG4.out.1 HB0.out HI.out).mono ?_
      rintro e w2 ⟨v2, rfl, HA2, hB2⟩
      obtain ⟨a2, cp2, hv2, hi2⟩ := isB_own HA2.out (by
        rw [HG1.out]
        split
        · exact nestB_range (by decide) k
        · intro j; simp)
      obtain ⟨L2, hL2⟩ : ∃ L2, L2 = B.1.length := ⟨_, rfl⟩
      rw [← hL2] at hv2 hi2
      subst hv2
      have HI2 : Hid (IsB w2 a2 L2 cp2 B.1) := hi2
      have HL2 : Hid _ := hL2
      obtain ⟨a3, cp3, hv3, hi3⟩ := isB_own (HA.out.grown hB2) (nestB_range (by decide) k)
      rw [← HL.out] at hv3 hi3
      cases hv3
      have HI3 : Hid (IsB w2 va L vc (nestB [0, 32] k)) := hi3
      have hLn : L ≤ 200 := by rw [HL.out, nestB_len]; simp only [List.length_cons, List.length_nil]; omega
      have hs2 := hB2.size
      clear hi2 hL2 hi3
      go_wp2_with fail
      refine (Get_any HI3.out (HTr.out.old hB2) (by omega) HX0.out).mono ?_
      rintro e w3 ⟨r3, lr3, cr3, na3, nl3, nc3, ka3, kl3, kc3, rfl, HTY3, HBH3, hB3⟩
      have hs3 := hB3.size
      have hBr3 : Below wr.heap.size wr w3 := hB2.trans (hB3.mono hB2.size)
      have hc : ∀ j, w3.cell? ⟨w1.heap.size, j, none⟩ = wr.cell? ⟨w1.heap.size, j, none⟩ := fun j => hBr3.cell (p := ⟨w1.heap.size, j, none⟩) hsz
      have e0 := (hc 0).trans c0
      have e1 := (hc 1).trans c1
      have e2 := (hc 2).trans c2
      have e3 := (hc 3).trans c3
      have e4 := (hc 4).trans c4
      have hlt3 : w1.heap.size < w3.heap.size := by omega
      clear c0 c1 c2 c3 c4 hc
      go_wp2_with fail
      refine (Text_nest ((HTY.out.old hBr3).old (below_one w3 _)) ((HTr.out.old hBr3).old (below_one w3 _)) HG4.out.2 HR0.out HI.out).mono ?_
      rintro e w4 ⟨rfl, hB4⟩
      have hB34 : Below w3.heap.size w3 w4 := (below_one w3 _).trans (hB4.mono (by simp))
      have hfin : Below w.heap.size w w4 := hB1.trans ((hB.trans ((hBr3.trans (hB34.mono hBr3.size)).mono hB.size)).mono hB1.size)
      have p0 : w4.cell? ⟨w3.heap.size, 0, none⟩ = some (.int .u16 X.val.id) := (hB4.cell (by simp)).trans (cell_box _ _ _ _ _ rfl)
      have q0 : w4.cell? ⟨w1.heap.size, 0, none⟩ = some (.int .u16 I) := (hB34.cell hlt3).trans e0
      clear e0 e1 e2 e3 e4
      by_cases h20 : k < 20
      · have x1 : B.2 = 0 := by rw [HG1.out, if_pos h20]
        have x2 : X.err = 0 := by rw [HG2.out.1, if_pos h20]
        have x3 : R.2 = 0 := by rw [HG3.out, if_pos h20]
        have x4 : X.val.id = I := by rw [(HG2.out.2 h20).2, HI.out]
        have x5 : lr3 = 0 := by
          have hr := HBH3.out
          rw [x2] at hr
          rcases hr with ⟨hr, _⟩ | ⟨_, h1, h2, b, o, of, h3, h4, h5, h6⟩
          · exact absurd rfl hr
          · have := h6.len_eq
            rw [List.length_drop, (HG2.out.2 h20).1] at this
            omega
        have hcv1 := (HI2.out.old (hB3.trans (hB34.mono hB3.size))).conv
        have hcv2 := (HI3.out.old (hB3.trans (hB34.mono hB3.size))).conv
        have x6 : B.1 = nestB [0, 32] k := by rw [HG1.out, if_pos h20]
        rw [x6] at hcv1
        generalize strOfNums (nestB [0, 32] k) = Z at *
        rw [x4] at p0
        rw [x1, x2, x3, x5]
        clear x1 x2 x3 x4 x5 x6
        have hk20 : decide ((20 : Int) < (k : Int) + 1) = false := by simp; omega
        go_wp2_with fail
        go_ret
        exact ⟨rfl, hfin⟩
      · have x1 : B = ([], 13) := by rw [HG1.out, if_neg h20]
        have x2 : X.err = 13 := by rw [HG2.out.1, if_neg h20]
        have x3 : R.2 = 13 := by rw [HG3.out, if_neg h20]
        have x4 : L2 = 0 := by rw [HL2.out, x1]; rfl
        have x5 : B.2 = 13 := by rw [x1]
        rw [x5, x2, x3, x4]
        clear x1 x2 x3 x4 x5
        have hk20 : decide ((20 : Int) < (k : Int) + 1) = true := by simp; omega
        go_wp2_with fail
        go_ret
        exact ⟨rfl, hfin⟩

set_option maxHeartbeats 2000000 in
theorem deep49 (w : World) (hT : Tab w) (n kd : Int) (K : Nat) (hn0 : 0 ≤ n) (hn1 : n ≤ 255) (hK : n % 40 = K) (hk0 : 0 ≤ kd) (hk1 : kd ≤ 255) (hq : kd % 2 = 1) :
    Calls Tryd.prog 6 #[.int .u8 n, .int .u8 kd] w fun e w' => e = .returned (.bool true) ∧ Below w.heap.size w w' := by
  have HT : Hid (Tab w) := hT
  have hK1 : K < 40 := by omega
  have hand : bits .and .u8 kd 1 = 1 := by rw [u8_and1 kd hk0 (by omega), hq]
  clear hT hq
  go_enter Tryd.func6, Tryd.ntmps6
  go_wp2_with fail
  refine (awake_any w HT.out).mono ?_
  rintro e w1 ⟨rfl, hB1⟩
  go_wp2_with fail
  clear hK
  go_loopw [8, 9] (fun v i wr => ∃ (k : Nat) (ka : Option Addr) (kl kc : Nat) (va : Option Addr) (L vc : Nat) (I : Int), k ≤ K ∧ i = .int .i64 k ∧ v = .slice va L vc ∧ Hid (I = (nest 49 k).id) ∧ Hid (wr.heap[w1.heap.size]? = some (.cells #[.int .u16 I, .string ⟨#[]⟩, .string ⟨#[]⟩, .slice none 0 0, .slice ka kl kc] 26 (0, 0))) ∧
      Hid (L = (nestB [0, 49, 0, 1] k).length) ∧ Hid (Acc wr (w1.heap.size + 1) (.slice va L vc) (nestB [0, 49, 0, 1] k)) ∧ Hid (TyAt k (fun q => w1.heap.size < q) wr (nest 49 k) none 0 0 ka kl kc) ∧ Below w1.heap.size w1 wr ∧ w1.heap.size < wr.heap.size) (fun _ i _ => K - (intOf i).toNat)
  case atStart =>
    refine ⟨0, none, 0, 0, _, 2, 2, 9, by omega, rfl, rfl, rfl, ?_, rfl, ?_, tyAt_plain 0 _ _ 9 (by decide) (by decide), (below_one _ _).alloc (by simp) _, by simp; omega⟩
    · show _ = _
      rw [(below_one (w1.alloc _) _).block _ (by simp)]
      exact heap_alloc_new w1 _
    · exact acc_lit (X := [0, 9]) (two_new _ _ _ _) (by unfold maxLen; decide) (Nat.le_refl _)
  case round =>
    obtain ⟨k, ka, kl, kc, va, L, vc, I, hk, rfl, rfl, HI, HBX, HL, HA, HTY, hB, hsz⟩ := hrel
    obtain ⟨c0, c1, c2, c3, c4⟩ := cells5 HBX.out
    obtain ⟨f0, f1, f2, f3, f4⟩ := frozen5 HBX.out
    by_cases hlt : k < K
    · obtain ⟨w6, hw6⟩ : ∃ w6, w6 = five wr w1.heap.size (.int .u16 49) (.string ⟨#[]⟩) (.string ⟨#[]⟩) (.slice none 0 0) (.slice (some ⟨wr.heap.size, 0, none⟩) 1 1) := ⟨_, rfl⟩
      have hL6 : ((((wr.setCell ⟨w1.heap.size, 0, none⟩ (.int .u16 49)).setCell ⟨w1.heap.size, 1, none⟩ (.string ⟨#[]⟩)).setCell ⟨w1.heap.size, 2, none⟩ (.string ⟨#[]⟩)).setCell ⟨w1.heap.size, 3, none⟩ (.slice none 0 0)).setCell ⟨w1.heap.size, 4, none⟩ (.slice (some ⟨wr.heap.size, 0, none⟩) 1 1) = w6 := hw6.symm
      have hs6 : w6.heap.size = wr.heap.size := by rw [hw6]; exact five_size _ _ _ _ _ _ _
      have HB6 : Hid (w6.heap[w1.heap.size]? = some (.cells #[.int .u16 49, .string ⟨#[]⟩, .string ⟨#[]⟩, .slice none 0 0, .slice (some ⟨wr.heap.size, 0, none⟩) 1 1] 26 (0, 0))) := by show _ = _; rw [hw6]; exact five_block HBX.out _ _ _ _ _
      have hbl6 : ∀ q, q ≠ w1.heap.size → w6.heap[q]? = wr.heap[q]? := fun q hq => by rw [hw6]; exact five_heap _ _ _ _ _ _ _ q hq
      have hB6 : Below w1.heap.size w1 w6 := hB.trans (by rw [hw6]; exact below_five _ _ _ _ _ _ _)
      have HA6 : Hid (Acc w6 (w1.heap.size + 1) (.slice va L vc) (nestB [0, 49, 0, 1] k)) := HA.out.keep (fun q hq => hbl6 q (by have := (HA.out.lt q hq).1; omega))
      have HTY6 : Hid (TyAt k (fun q => w1.heap.size < q) w6 (nest 49 k) none 0 0 ka kl kc) := HTY.out.mono (fun q hq hF => ⟨hF, hbl6 q (by omega)⟩) (by omega)
      have hLn : L ≤ 200 := by rw [HL.out, nestB_len]; simp only [List.length_cons, List.length_nil]; omega
      have HLQ : Hid ((nestB [0, 49, 0, 1] k).length = L) := HL.out.symm
      clear hw6 hbl6
      go_wp2_with (at_builtin; refine wpList_append_on (base := w1.heap.size + 1) (X := [0, 49, 0, 1]) (zs := nestB [0, 49, 0, 1] k) rfl (.tmp 35) (.tmp 36) rfl rfl ?c0 rfl ?c1 ?c2 ?c3 ?_)
      case c0 =>
        refine acc_lit (X := [0, 49, 0, 1]) ?_ (by unfold maxLen; decide) (by omega)
        have := two_new w6 (.cells #[.int .u16 I, .string ⟨#[]⟩, .string ⟨#[]⟩, .slice none 0 0, .slice ka kl kc] 26) #[.int .u8 0, .int .u8 49, .int .u8 0, .int .u8 1] 5
        rw [hs6] at this
        exact this
      case c1 =>
        have h1 := (HA6.out.grown ((below_one w6 (.cells #[.int .u16 I, .string ⟨#[]⟩, .string ⟨#[]⟩, .slice none 0 0, .slice ka kl kc] 26)).alloc (by simp) (.cells #[.int .u8 0, .int .u8 49, .int .u8 0, .int .u8 1] 5)))
        obtain ⟨a, cp, h2, h3⟩ := isB_own h1 (nestB_range (by decide) k)
        rw [HLQ.out] at h2 h3
        cases h2
        exact h3
      case c2 => simp only [List.length_cons, List.length_nil]; omega
      case c3 => simp; omega
      intro v7 w7 HA7 hg7 hm7
      have hbl7 : ∀ q, q ≤ wr.heap.size → w7.heap[q]? = ((w6.alloc (.cells #[.int .u16 I, .string ⟨#[]⟩, .string ⟨#[]⟩, .slice none 0 0, .slice ka kl kc] 26)).alloc (.cells #[.int .u8 0, .int .u8 49, .int .u8 0, .int .u8 1] 5)).heap[q]? := fun q hq => hg7.block q (by simp; omega) (by simp [Value.ownBlock]; omega)
      have hold7 : ∀ q, q < wr.heap.size → w7.heap[q]? = w6.heap[q]? := fun q hq => by
        rw [hbl7 q (by omega)]
        exact ((below_one w6 _).alloc (by simp) _).block q (by omega)
      have hs7 := hg7.size
      simp at hs7
      have HK7 : Hid (w7.heap[wr.heap.size]? = some (.cells #[.int .u16 I, .string ⟨#[]⟩, .string ⟨#[]⟩, .slice none 0 0, .slice ka kl kc] 26 (0, 0))) := by
        show _ = _
        rw [hbl7 _ (Nat.le_refl _), (below_one (w6.alloc _) _).block _ (by simp; omega), ← hs6]
        exact heap_alloc_new w6 _
      have HTY7 : Hid (TyAt (k + 1) (fun q => w1.heap.size < q) w7 (nest 49 (k + 1)) none 0 0 (some ⟨wr.heap.size, 0, none⟩) 1 1) := by
        refine tyAt_ofOne (by decide) (by decide) ?_ (by omega) (HTY6.out.mono (fun q hq hF => ⟨hF, hold7 q (by omega)⟩) (by omega))
        rw [(nest_texts 49 k).1, (nest_texts 49 k).2, ← HI.out]
        exact HK7.out
      have HBX7 : Hid (w7.heap[w1.heap.size]? = some (.cells #[.int .u16 49, .string ⟨#[]⟩, .string ⟨#[]⟩, .slice none 0 0, .slice (some ⟨wr.heap.size, 0, none⟩) 1 1] 26 (0, 0))) := by
        show _ = _
        rw [hold7 _ hsz]; exact HB6.out
      have hB7 : Below w1.heap.size w1 w7 := (hB6.trans (((below_one w6 _).alloc (by simp) _).mono (by omega))).grown hg7 (by simp; omega) (fun q hq => by simp [Value.ownBlock] at hq; omega)
      obtain ⟨a8, c8, hv8x, _⟩ := isB_own HA7.out (nestB_range (pre := [0, 49, 0, 1]) (by decide) (k + 1))
      obtain ⟨L8, hL8⟩ : ∃ L8, L8 = (nestB [0, 49, 0, 1] (k + 1)).length := ⟨_, rfl⟩
      have HL8 : Hid _ := hL8
      have hv8 : v7 = .slice a8 (nestB [0, 49, 0, 1] (k + 1)).length c8 := hv8x
      clear hv8x
      rw [← hL8] at hv8
      subst hv8
      have HA8 : Hid (Acc w7 (w1.heap.size + 1) (.slice a8 L8 c8) (nestB [0, 49, 0, 1] (k + 1))) := HA7.out
      clear hL8 HA7 hm7 hg7 hbl7 hold7 hL6 c0 c1 c2 c3 c4 f0 f1 f2 f3 f4
      go_wp2_with fail
      go_roundw
      case rel => exact ⟨k + 1, _, _, _, a8, L8, c8, 49, by omega, by go_num, rfl, rfl, HBX7, HL8, HA8, HTY7, hB7, by omega⟩
      case measure => simp [intOf]; omega
    · obtain rfl : k = K := by omega
      obtain ⟨B, hB0⟩ : ∃ B, B = putR k (nest 49 k) := ⟨_, rfl⟩
      obtain ⟨X, hX0⟩ : ∃ X, X = tyR 20 (nestB [0, 49, 0, 1] k) := ⟨_, rfl⟩
      obtain ⟨R, hR0⟩ : ∃ R, R = textT k (nest 49 k) := ⟨_, rfl⟩
      have g1 := nest_put49 ⟨k, hK1⟩
      have g2 := nest_get49 ⟨k, hK1⟩
      have g3 := nest_text49 ⟨k, hK1⟩
      have g4 := nest_w49 ⟨k, hK1⟩
      simp only [← hB0, ← hX0, ← hR0] at g1 g2 g3
      have HG1 : Hid _ := g1
      have HG2 : Hid _ := g2
      have HG3 : Hid _ := g3
      have HG4 : Hid _ := g4
      have HB0 : Hid _ := hB0
      have HX0 : Hid _ := hX0
      have HR0 : Hid _ := hR0
      have HTr : Hid (Tab wr) := (HT.out.old hB1).old hB
      clear g1 g2 g3 g4 hB0 hX0 hR0 f0 f1 f2 f3 f4
      go_wp2_with fail
      refine (Put_nest HTY.out HTr.out HG4.out.1 HB0.out HI.out).mono ?_
      rintro e w2 ⟨v2, rfl, HA2, hB2⟩
      obtain ⟨a2, cp2, hv2, hi2⟩ := isB_own HA2.out (by
        rw [HG1.out]
        split
        · exact nestB_range (by decide) k
        · intro j; simp)
      obtain ⟨L2, hL2⟩ : ∃ L2, L2 = B.1.length := ⟨_, rfl⟩
      rw [← hL2] at hv2 hi2
      subst hv2
      have HI2 : Hid (IsB w2 a2 L2 cp2 B.1) := hi2
      have HL2 : Hid _ := hL2
      obtain ⟨a3, cp3, hv3, hi3⟩ := isB_own (HA.out.grown hB2) (nestB_range (by decide) k)
      rw [← HL.out] at hv3 hi3
      cases hv3
      have HI3 : Hid (IsB w2 va L vc (nestB [0, 49, 0, 1] k)) := hi3
      have hLn : L ≤ 200 := by rw [HL.out, nestB_len]; simp only [List.length_cons, List.length_nil]; omega
      have hs2 := hB2.size
      clear hi2 hL2 hi3
      go_wp2_with fail
      refine (Get_any HI3.out (HTr.out.old hB2) (by omega) HX0.out).mono ?_
      rintro e w3 ⟨r3, lr3, cr3, na3, nl3, nc3, ka3, kl3, kc3, rfl, HTY3, HBH3, hB3⟩
      have hs3 := hB3.size
      have hBr3 : Below wr.heap.size wr w3 := hB2.trans (hB3.mono hB2.size)
      have hc : ∀ j, w3.cell? ⟨w1.heap.size, j, none⟩ = wr.cell? ⟨w1.heap.size, j, none⟩ := fun j => hBr3.cell (p := ⟨w1.heap.size, j, none⟩) hsz
      have e0 := (hc 0).trans c0
      have e1 := (hc 1).trans c1
      have e2 := (hc 2).trans c2
      have e3 := (hc 3).trans c3
      have e4 := (hc 4).trans c4
      have hlt3 : w1.heap.size < w3.heap.size := by omega
      clear c0 c1 c2 c3 c4 hc
      go_wp2_with fail
      refine (Text_nest ((HTY.out.old hBr3).old (below_one w3 _)) ((HTr.out.old hBr3).old (below_one w3 _)) HG4.out.2 HR0.out HI.out).mono ?_
      rintro e w4 ⟨rfl, hB4⟩
      have hB34 : Below w3.heap.size w3 w4 := (below_one w3 _).trans (hB4.mono (by simp))
      have hfin : Below w.heap.size w w4 := hB1.trans ((hB.trans ((hBr3.trans (hB34.mono hBr3.size)).mono hB.size)).mono hB1.size)
      have p0 : w4.cell? ⟨w3.heap.size, 0, none⟩ = some (.int .u16 X.val.id) := (hB4.cell (by simp)).trans (cell_box _ _ _ _ _ rfl)
      have q0 : w4.cell? ⟨w1.heap.size, 0, none⟩ = some (.int .u16 I) := (hB34.cell hlt3).trans e0
      clear e0 e1 e2 e3 e4
      by_cases h20 : k < 20
      · have x1 : B.2 = 0 := by rw [HG1.out, if_pos h20]
        have x2 : X.err = 0 := by rw [HG2.out.1, if_pos h20]
        have x3 : R.2 = 0 := by rw [HG3.out, if_pos h20]
        have x4 : X.val.id = I := by rw [(HG2.out.2 h20).2, HI.out]
        have x5 : lr3 = 0 := by
          have hr := HBH3.out
          rw [x2] at hr
          rcases hr with ⟨hr, _⟩ | ⟨_, h1, h2, b, o, of, h3, h4, h5, h6⟩
          · exact absurd rfl hr
          · have := h6.len_eq
            rw [List.length_drop, (HG2.out.2 h20).1] at this
            omega
        have hcv1 := (HI2.out.old (hB3.trans (hB34.mono hB3.size))).conv
        have hcv2 := (HI3.out.old (hB3.trans (hB34.mono hB3.size))).conv
        have x6 : B.1 = nestB [0, 49, 0, 1] k := by rw [HG1.out, if_pos h20]
        rw [x6] at hcv1
        generalize strOfNums (nestB [0, 49, 0, 1] k) = Z at *
        rw [x4] at p0
        rw [x1, x2, x3, x5]
        clear x1 x2 x3 x4 x5 x6
        have hk20 : decide ((20 : Int) < (k : Int) + 1) = false := by simp; omega
        go_wp2_with fail
        go_ret
        exact ⟨rfl, hfin⟩
      · have x1 : B = ([], 13) := by rw [HG1.out, if_neg h20]
        have x2 : X.err = 13 := by rw [HG2.out.1, if_neg h20]
        have x3 : R.2 = 13 := by rw [HG3.out, if_neg h20]
        have x4 : L2 = 0 := by rw [HL2.out, x1]; rfl
        have x5 : B.2 = 13 := by rw [x1]
        rw [x5, x2, x3, x4]
        clear x1 x2 x3 x4 x5
        have hk20 : decide ((20 : Int) < (k : Int) + 1) = true := by simp; omega
        go_wp2_with fail
        go_ret
        exact ⟨rfl, hfin⟩


theorem deep_any (w : World) (hT : Tab w) (n kd : Int) (hn0 : 0 ≤ n) (hn1 : n ≤ 255) (hk0 : 0 ≤ kd) (hk1 : kd ≤ 255) :
    Calls Tryd.prog 6 #[.int .u8 n, .int .u8 kd] w fun e w' => e = .returned (.bool true) ∧ Below w.heap.size w w' := by
  obtain ⟨K, hK⟩ := Int.eq_ofNat_of_zero_le (show 0 ≤ n % 40 by omega)
  by_cases hq : kd % 2 = 0
  · exact deep32 w hT n kd K hn0 hn1 hK hk0 hk1 hq
  · exact deep49 w hT n kd K hn0 hn1 hK hk0 hk1 (by omega)
end Go.Proofs.YtakaonfeegfmpaaDoor
