/-
  What is read of parts by flags, as a function of the bytes; the contract of the function that reads part by part.
-/
import Derived.Test.YtkcnmmlakimonaaParts
import Derived.Laws.EntriesVeiled
namespace Go.Proofs.Ytkcnmmlakimonaa
open Go.RowKit
set_option maxRecDepth 100000
set_option linter.unusedVariables false
set_option linter.unusedSimpArgs false

abbrev Pre := List Int × List ByteArray × List En

def opt {α : Type} [Inhabited α] (c : Bool) (q : List Int → Res α) (zs : List Int) : Res α := if c then q zs else ⟨default, 0, 0⟩

def bitB (f m : Int) : Bool := !(bits .and .u8 f m == 0)

def rest3 (T : List Int) (ws : List ByteArray) (es : List En) (d : Nat) : Res Pre := ⟨(T, ws, es), d, 0⟩
def rest2 (f : Int) (zs : List Int) (T : List Int) (ws : List ByteArray) (d : Nat) : Res Pre :=
  if (opt (bitB f 4) (listR (keyR valueR)) (zs.drop d)).err = 0 then rest3 T ws (opt (bitB f 4) (listR (keyR valueR)) (zs.drop d)).val (d + (opt (bitB f 4) (listR (keyR valueR)) (zs.drop d)).done)
  else ⟨default, 0, (opt (bitB f 4) (listR (keyR valueR)) (zs.drop d)).err⟩
def rest1 (f : Int) (zs : List Int) (T : List Int) (d : Nat) : Res Pre :=
  if (opt (bitB f 8) (listR textR) (zs.drop d)).err = 0 then rest2 f zs T (opt (bitB f 8) (listR textR) (zs.drop d)).val (d + (opt (bitB f 8) (listR textR) (zs.drop d)).done)
  else ⟨default, 0, (opt (bitB f 8) (listR textR) (zs.drop d)).err⟩
def rest0 (f : Int) (zs : List Int) : Res Pre :=
  if (opt (bitB f 2) trR (zs.drop 0)).err = 0 then rest1 f zs (opt (bitB f 2) trR (zs.drop 0)).val (0 + (opt (bitB f 2) trR (zs.drop 0)).done)
  else ⟨default, 0, (opt (bitB f 2) trR (zs.drop 0)).err⟩

theorem PIn.old {w W : World} {base p : Nat} {T : List Int} {ws : List ByteArray} {es : List En} (h : PIn w base p T ws es) (hB : Below w.heap.size w W) : PIn W base p T ws es := by
  obtain ⟨hp, hb, t0, lt0, ct0, vw, ve, hh, h1, h2, h3, h4⟩ := h
  exact ⟨hp, Nat.le_trans hb hB.size, t0, lt0, ct0, vw, ve, (hB.block p (block_lt hh)).trans hh, h1.old hB, h2.old hB.size, h3.old stays_s hB, h4.old stays_e hB⟩

/-- Where the reading stands: what is in p, what is left of the bytes. -/
def At (w wr : World) (base p lim : Nat) (zs : List Int) (r : Option Addr) (lr cr : Nat) (T : List Int) (ws : List ByteArray) (es : List En) (d : Nat) : Prop :=
  PIn wr base p T ws es ∧ IsB wr r lr cr (zs.drop d) ∧ d ≤ zs.length ∧ (∀ q, r = some q → 0 < (zs.drop d).length → q.block < lim) ∧ Kept (fun k => k = p) w wr

theorem At.old {w wr W : World} {base p lim : Nat} {zs : List Int} {r : Option Addr} {lr cr : Nat} {T : List Int} {ws : List ByteArray} {es : List En} {d : Nat} (h : At w wr base p lim zs r lr cr T ws es d) (hB : Below wr.heap.size wr W) : At w W base p lim zs r lr cr T ws es d :=
  ⟨h.1.old hB, h.2.1.old hB, h.2.2.1, h.2.2.2.1, h.2.2.2.2.new hB⟩

/-- One part more is read. -/
theorem At.next {w wr W : World} {base p lim : Nat} {zs : List Int} {r r2 : Option Addr} {lr cr lr2 cr2 : Nat} {T T' : List Int} {ws ws' : List ByteArray} {es es' : List En} {d dn : Nat} {er : Int} (h : At w wr base p lim zs r lr cr T ws es d) (hB : Behind W r r2 lr2 cr2 (zs.drop d) dn er) (he : er = 0)
    (hP : PIn W base p T' ws' es') (hK : Kept (fun k => k = p) wr W) : At w W base p lim zs r2 lr2 cr2 T' ws' es' (d + dn) := by
  rcases hB with ⟨h1, _⟩ | ⟨_, h2, h3, b, o, off, h4, h5, h6, h7⟩
  · exact absurd he h1
  · rw [List.drop_drop] at h7
    rw [List.length_drop] at h2
    have h8 := h.2.2.1
    subst h5
    refine ⟨hP, h7.isB, by omega, fun q e hl => ?_, h.2.2.2.2.trans hK (fun i _ e => e)⟩
    cases e
    exact h.2.2.2.1 ⟨b, o, none⟩ h4 h3

theorem At.len {w wr : World} {base p lim : Nat} {zs : List Int} {r : Option Addr} {lr cr : Nat} {T : List Int} {ws : List ByteArray} {es : List En} {d : Nat} (h : At w wr base p lim zs r lr cr T ws es d) : lr ≤ zs.length := by
  have := h.2.1.1
  rw [List.length_drop] at this
  omega

/-- The cells of the row of three parts. -/
theorem six_cells {w : World} {g : Nat} {x0 x1 x2 x3 x4 x5 : Value} {t : TypeId} (h : w.heap[g]? = some (.cells #[x0, x1, x2, x3, x4, x5] t (0, 0))) :
    w.cell? ⟨g, 0, none⟩ = some x0 ∧ w.cell? ⟨g, 1, none⟩ = some x1 ∧ w.cell? ⟨g, 2, none⟩ = some x2 ∧ w.cell? ⟨g, 3, none⟩ = some x3 ∧ w.cell? ⟨g, 4, none⟩ = some x4 ∧ w.cell? ⟨g, 5, none⟩ = some x5 := by
  refine ⟨?_, ?_, ?_, ?_, ?_, ?_⟩ <;> simp [World.cell?, h]

def pt (b : Nat) : Value := .pointer (some ⟨b, 0, none⟩)
def parts3 (b1 b2 b3 : Nat) : Array Value := #[.int .u8 2, .func (.func 29) #[] #[.pointer (some ⟨b1, 0, none⟩)], .int .u8 8, .func (.func 31) #[] #[.pointer (some ⟨b2, 0, none⟩)], .int .u8 4, .func (.func 33) #[] #[.pointer (some ⟨b3, 0, none⟩)]]

/-- The parts that lie in memory, and the variables that they captured. -/
def Lies3 (w : World) (p g b1 b2 b3 : Nat) : Prop :=
  w.heap[g]? = some (.cells (parts3 b1 b2 b3) 52 (0, 0)) ∧ w.heap[b1]? = some (.cells #[.pointer (some ⟨p, 0, none⟩)] 54 (0, 0)) ∧ w.heap[b2]? = some (.cells #[.pointer (some ⟨p, 0, none⟩)] 54 (0, 0)) ∧ w.heap[b3]? = some (.cells #[.pointer (some ⟨p, 0, none⟩)] 54 (0, 0)) ∧
  g ≠ p ∧ b1 ≠ p ∧ b2 ≠ p ∧ b3 ≠ p

theorem Lies3.kept {w W : World} {p g b1 b2 b3 : Nat} (h : Lies3 w p g b1 b2 b3) (hK : Kept (fun k => k = p) w W) : Lies3 W p g b1 b2 b3 := by
  obtain ⟨h1, h2, h3, h4, n1, n2, n3, n4⟩ := h
  exact ⟨(hK.block g (block_lt h1) n1).trans h1, (hK.block b1 (block_lt h2) n2).trans h2, (hK.block b2 (block_lt h3) n3).trans h3, (hK.block b3 (block_lt h4) n4).trans h4, n1, n2, n3, n4⟩

theorem blk_old {w W : World} {b : Nat} {o : Obj} (h : w.heap[b]? = some o) (hB : Below w.heap.size w W) : W.heap[b]? = some o := (hB.block b (block_lt h)).trans h

set_option maxHeartbeats 2000000 in
theorem read3 {w : World} {base p lim g b1 b2 b3 : Nat} (hL : Lies3 w p g b1 b2 b3) (f : Int) {a : Option Addr} {len cap : Nat} {zs : List Int} (hP : PIn w base p [] [] []) (h : IsB w a len cap zs) (hsm : len ≤ 140737488351232) (hlim : lim ≤ p) (hap : ∀ q, a = some q → 0 < zs.length → q.block < lim)
    {Y : Res Pre} (hY : Y = rest0 f zs) :
    Calls Try.prog 15 #[.int .u8 f, .slice a len cap, .slice (some ⟨g, 0, none⟩) 3 3] w fun e w' => ∃ r lr cr, e = .returned (.tuple #[.slice r lr cr, .int .i64 Y.err]) ∧ (Y.err ≠ 0 → lr = 0) ∧ Kept (fun k => k = p) w w' ∧ Hid (Y.err = 0 → At w w' base p lim zs r lr cr Y.val.1 Y.val.2.1 Y.val.2.2 Y.done) := by
  have HA : Hid (At w w base p lim zs a len cap [] [] [] 0) := ⟨hP, by simpa using h, Nat.zero_le _, by simpa using hap, Kept.refl _ _⟩
  have HZ : Hid (zs.length = len) := h.1
  have HL : Hid (Lies3 w p g b1 b2 b3) := hL
  have HY : Hid (Y = rest0 f zs) := hY
  clear h hP hap hL hY
  go_enter Try.func15, Try.ntmps15
  go_wp2_with fail
  go_loopw [1, 14] (fun b i wr => ∃ k r lr cr T ws es d, k ≤ 3 ∧ i = .int .i64 (k : Nat) ∧ b = .slice r lr cr ∧ Hid (At w wr base p lim zs r lr cr T ws es d) ∧
      Hid ((k = 0 ∧ T = [] ∧ ws = [] ∧ es = [] ∧ d = 0 ∧ Y = rest0 f zs) ∨ (k = 1 ∧ ws = [] ∧ es = [] ∧ Y = rest1 f zs T d) ∨ (k = 2 ∧ es = [] ∧ Y = rest2 f zs T ws d) ∨ (k = 3 ∧ Y = rest3 T ws es d))) (fun _ i _ => 3 - (intOf i).toNat)
  case atStart => exact ⟨0, a, len, cap, [], [], [], 0, by omega, rfl, rfl, HA, .inl ⟨rfl, rfl, rfl, rfl, rfl, HY.out⟩⟩
  case round =>
    obtain ⟨k, r, lr, cr, T, ws, es, d, hk, rfl, rfl, HW, HS⟩ := hrel
    have hlies := HL.out.kept HW.out.2.2.2.2
    have hlr : lr ≤ 140737488351232 := by have := HW.out.len; have := HZ.out; omega
    have HLI : Hid (Lies3 wr p g b1 b2 b3) := hlies
    obtain ⟨c0, c1, c2, c3, c4, c5⟩ := six_cells hlies.1
    have HHL : Hid (lr ≤ 140737488351232) := hlr
    clear hlies hlr
    rcases HS.out with ⟨rfl, rfl, rfl, rfl, rfl, hYk⟩ | ⟨rfl, rfl, rfl, hYk⟩ | ⟨rfl, rfl, hYk⟩ | ⟨rfl, hYk⟩
    · cases hb : (bits .and .u8 f 2 == 0)
      · obtain ⟨X, hX⟩ : ∃ X, X = trR (zs.drop 0) := ⟨_, rfl⟩
        have hO : opt (bitB f 2) (trR) (zs.drop 0) = X := by rw [bitB, hb, hX]; rfl
        rw [rest0, hO] at hYk
        have HX : Hid (X = trR (zs.drop 0)) := hX
        have HYK : Hid (Y = if X.err = 0 then rest1 f zs X.val (0 + X.done) else ⟨default, 0, X.err⟩) := hYk
        clear hO hX hYk
        go_wp2_with fail
        refine (gtrac (HW.out.1.old (below_one wr _)) (blk_old HLI.out.2.1 (below_one wr _)) (HW.out.2.1.old (below_one wr _)) HHL.out (fun q e hl hq => by have := HW.out.2.2.2.1 q e hl; omega) HX.out).mono ?_
        rintro e w2 ⟨r2, lr2, cr2, rfl, HB, HP2, HK2⟩
        by_cases he : X.err = 0
        · have HN := HYK.out
          rw [if_pos he] at HN
          have HA2 : Hid (At w w2 base p lim zs r2 lr2 cr2 X.val [] [] (0 + X.done)) := (HW.out.old (below_one wr _)).next HB.out he HP2.out HK2.out
          have HNN : Hid (Y = rest1 f zs X.val (0 + X.done)) := HN
          clear HN
          rw [he]
          go_wp2_with fail
          go_roundw
          case rel => exact ⟨1, r2, lr2, cr2, X.val, [], [], 0 + X.done, by omega, by go_num, rfl, HA2, .inr (.inl ⟨rfl, rfl, rfl, HNN.out⟩)⟩
          case measure => simp [intOf]
        · have HN := HYK.out
          rw [if_neg he] at HN
          have t : (X.err == 0) = false := by simpa using he
          have HNN : Hid (Y = ⟨default, 0, X.err⟩) := HN
          have HE : Hid (X.err ≠ 0) := he
          clear HN he
          go_wp2_with fail
          go_ret2
          exact ⟨none, 0, 0, by rw [HNN.out]; rfl, fun _ => rfl, (HW.out.old (below_one wr _)).2.2.2.2.trans HK2.out (fun _ _ e => e), fun h0 => absurd h0 (by rw [HNN.out]; exact HE.out)⟩
      · have hO : opt (bitB f 2) (trR) (zs.drop 0) = ⟨default, 0, 0⟩ := by rw [bitB, hb]; rfl
        rw [rest0, hO, if_pos rfl] at hYk
        have HNN : Hid (Y = rest1 f zs [] 0) := hYk
        clear hO hYk
        go_wp2_with fail
        go_roundw
        case rel => exact ⟨1, r, lr, cr, [], [], [], 0, by omega, by go_num, rfl, HW.out.old (below_one wr _), .inr (.inl ⟨rfl, rfl, rfl, HNN.out⟩)⟩
        case measure => simp [intOf]
    · cases hb : (bits .and .u8 f 8 == 0)
      · obtain ⟨X, hX⟩ : ∃ X, X = listR textR (zs.drop d) := ⟨_, rfl⟩
        have hO : opt (bitB f 8) (listR textR) (zs.drop d) = X := by rw [bitB, hb, hX]; rfl
        rw [rest1, hO] at hYk
        have HX : Hid (X = listR textR (zs.drop d)) := hX
        have HYK : Hid (Y = if X.err = 0 then rest2 f zs T X.val (d + X.done) else ⟨default, 0, X.err⟩) := hYk
        clear hO hX hYk
        go_wp2_with fail
        refine (gwarn (HW.out.1.old (below_one wr _)) (blk_old HLI.out.2.2.1 (below_one wr _)) (HW.out.2.1.old (below_one wr _)) HHL.out (fun q e hl hq => by have := HW.out.2.2.2.1 q e hl; omega) HX.out).mono ?_
        rintro e w2 ⟨r2, lr2, cr2, rfl, HB, HP2, HK2⟩
        by_cases he : X.err = 0
        · have HN := HYK.out
          rw [if_pos he] at HN
          have HA2 : Hid (At w w2 base p lim zs r2 lr2 cr2 T X.val [] (d + X.done)) := (HW.out.old (below_one wr _)).next HB.out he HP2.out HK2.out
          have HNN : Hid (Y = rest2 f zs T X.val (d + X.done)) := HN
          clear HN
          rw [he]
          go_wp2_with fail
          go_roundw
          case rel => exact ⟨2, r2, lr2, cr2, T, X.val, [], d + X.done, by omega, by go_num, rfl, HA2, .inr (.inr (.inl ⟨rfl, rfl, HNN.out⟩))⟩
          case measure => simp [intOf]
        · have HN := HYK.out
          rw [if_neg he] at HN
          have t : (X.err == 0) = false := by simpa using he
          have HNN : Hid (Y = ⟨default, 0, X.err⟩) := HN
          have HE : Hid (X.err ≠ 0) := he
          clear HN he
          go_wp2_with fail
          go_ret2
          exact ⟨none, 0, 0, by rw [HNN.out]; rfl, fun _ => rfl, (HW.out.old (below_one wr _)).2.2.2.2.trans HK2.out (fun _ _ e => e), fun h0 => absurd h0 (by rw [HNN.out]; exact HE.out)⟩
      · have hO : opt (bitB f 8) (listR textR) (zs.drop d) = ⟨default, 0, 0⟩ := by rw [bitB, hb]; rfl
        rw [rest1, hO, if_pos rfl] at hYk
        have HNN : Hid (Y = rest2 f zs T [] d) := hYk
        clear hO hYk
        go_wp2_with fail
        go_roundw
        case rel => exact ⟨2, r, lr, cr, T, [], [], d, by omega, by go_num, rfl, HW.out.old (below_one wr _), .inr (.inr (.inl ⟨rfl, rfl, HNN.out⟩))⟩
        case measure => simp [intOf]
    · cases hb : (bits .and .u8 f 4 == 0)
      · obtain ⟨X, hX⟩ : ∃ X, X = listR (keyR valueR) (zs.drop d) := ⟨_, rfl⟩
        have hO : opt (bitB f 4) (listR (keyR valueR)) (zs.drop d) = X := by rw [bitB, hb, hX]; rfl
        rw [rest2, hO] at hYk
        have HX : Hid (X = listR (keyR valueR) (zs.drop d)) := hX
        have HYK : Hid (Y = if X.err = 0 then rest3 T ws X.val (d + X.done) else ⟨default, 0, X.err⟩) := hYk
        clear hO hX hYk
        go_wp2_with fail
        refine (gload (HW.out.1.old (below_one wr _)) (blk_old HLI.out.2.2.2.1 (below_one wr _)) (HW.out.2.1.old (below_one wr _)) HHL.out (fun q e hl hq => by have := HW.out.2.2.2.1 q e hl; omega) HX.out).mono ?_
        rintro e w2 ⟨r2, lr2, cr2, rfl, HB, HP2, HK2⟩
        by_cases he : X.err = 0
        · have HN := HYK.out
          rw [if_pos he] at HN
          have HA2 : Hid (At w w2 base p lim zs r2 lr2 cr2 T ws X.val (d + X.done)) := (HW.out.old (below_one wr _)).next HB.out he HP2.out HK2.out
          have HNN : Hid (Y = rest3 T ws X.val (d + X.done)) := HN
          clear HN
          rw [he]
          go_wp2_with fail
          go_roundw
          case rel => exact ⟨3, r2, lr2, cr2, T, ws, X.val, d + X.done, by omega, by go_num, rfl, HA2, .inr (.inr (.inr ⟨rfl, HNN.out⟩))⟩
          case measure => simp [intOf]
        · have HN := HYK.out
          rw [if_neg he] at HN
          have t : (X.err == 0) = false := by simpa using he
          have HNN : Hid (Y = ⟨default, 0, X.err⟩) := HN
          have HE : Hid (X.err ≠ 0) := he
          clear HN he
          go_wp2_with fail
          go_ret2
          exact ⟨none, 0, 0, by rw [HNN.out]; rfl, fun _ => rfl, (HW.out.old (below_one wr _)).2.2.2.2.trans HK2.out (fun _ _ e => e), fun h0 => absurd h0 (by rw [HNN.out]; exact HE.out)⟩
      · have hO : opt (bitB f 4) (listR (keyR valueR)) (zs.drop d) = ⟨default, 0, 0⟩ := by rw [bitB, hb]; rfl
        rw [rest2, hO, if_pos rfl] at hYk
        have HNN : Hid (Y = rest3 T ws [] d) := hYk
        clear hO hYk
        go_wp2_with fail
        go_roundw
        case rel => exact ⟨3, r, lr, cr, T, ws, [], d, by omega, by go_num, rfl, HW.out.old (below_one wr _), .inr (.inr (.inr ⟨rfl, HNN.out⟩))⟩
        case measure => simp [intOf]
    · have HNN : Hid (Y = rest3 T ws es d) := hYk
      clear hYk
      have HE : Hid (Y.err = 0) := by rw [HNN.out]; rfl
      have HR : Hid (At w wr base p lim zs r lr cr Y.val.1 Y.val.2.1 Y.val.2.2 Y.done) := by rw [HNN.out]; exact HW.out
      go_wp2_with fail
      go_ret2
      exact ⟨r, lr, cr, by rw [HE.out]; rfl, fun h0 => absurd HE.out h0, HW.out.2.2.2.2, fun _ => HR.out⟩

/-- The one part of a request, and the variable that it captured. -/
def Lies1 (w : World) (p g b3 : Nat) : Prop :=
  w.heap[g]? = some (.cells #[.int .u8 4, .func (.func 33) #[] #[.pointer (some ⟨b3, 0, none⟩)]] 52 (0, 0)) ∧ w.heap[b3]? = some (.cells #[.pointer (some ⟨p, 0, none⟩)] 54 (0, 0)) ∧ g ≠ p ∧ b3 ≠ p

theorem Lies1.kept {w W : World} {p g b3 : Nat} (h : Lies1 w p g b3) (hK : Kept (fun k => k = p) w W) : Lies1 W p g b3 := by
  obtain ⟨h1, h2, n1, n2⟩ := h
  exact ⟨(hK.block g (block_lt h1) n1).trans h1, (hK.block b3 (block_lt h2) n2).trans h2, n1, n2⟩

theorem two_cells {w : World} {g : Nat} {x0 x1 : Value} {t : TypeId} (h : w.heap[g]? = some (.cells #[x0, x1] t (0, 0))) : w.cell? ⟨g, 0, none⟩ = some x0 ∧ w.cell? ⟨g, 1, none⟩ = some x1 := by
  refine ⟨?_, ?_⟩ <;> simp [World.cell?, h]

set_option maxHeartbeats 2000000 in
theorem read1 {w : World} {base p lim g b3 : Nat} (hL : Lies1 w p g b3) (f : Int) {a : Option Addr} {len cap : Nat} {zs : List Int} (hP : PIn w base p [] [] []) (h : IsB w a len cap zs) (hsm : len ≤ 140737488351232) (hlim : lim ≤ p) (hap : ∀ q, a = some q → 0 < zs.length → q.block < lim)
    {Y : Res Pre} (hY : Y = rest2 f zs [] [] 0) :
    Calls Try.prog 15 #[.int .u8 f, .slice a len cap, .slice (some ⟨g, 0, none⟩) 1 1] w fun e w' => ∃ r lr cr, e = .returned (.tuple #[.slice r lr cr, .int .i64 Y.err]) ∧ (Y.err ≠ 0 → lr = 0) ∧ Kept (fun k => k = p) w w' ∧ Hid (Y.err = 0 → At w w' base p lim zs r lr cr Y.val.1 Y.val.2.1 Y.val.2.2 Y.done) := by
  have HA : Hid (At w w base p lim zs a len cap [] [] [] 0) := ⟨hP, by simpa using h, Nat.zero_le _, by simpa using hap, Kept.refl _ _⟩
  have HZ : Hid (zs.length = len) := h.1
  have HL : Hid (Lies1 w p g b3) := hL
  have HY : Hid (Y = rest2 f zs [] [] 0) := hY
  clear h hP hap hL hY
  go_enter Try.func15, Try.ntmps15
  go_wp2_with fail
  go_loopw [1, 14] (fun b i wr => ∃ k r lr cr T ws es d, k ≤ 1 ∧ i = .int .i64 (k : Nat) ∧ b = .slice r lr cr ∧ Hid (At w wr base p lim zs r lr cr T ws es d) ∧
      Hid ((k = 0 ∧ T = [] ∧ ws = [] ∧ es = [] ∧ d = 0 ∧ Y = rest2 f zs [] [] 0) ∨ (k = 1 ∧ Y = rest3 T ws es d))) (fun _ i _ => 1 - (intOf i).toNat)
  case atStart => exact ⟨0, a, len, cap, [], [], [], 0, by omega, rfl, rfl, HA, .inl ⟨rfl, rfl, rfl, rfl, rfl, HY.out⟩⟩
  case round =>
    obtain ⟨k, r, lr, cr, T, ws, es, d, hk, rfl, rfl, HW, HS⟩ := hrel
    have hlies := HL.out.kept HW.out.2.2.2.2
    have hlr : lr ≤ 140737488351232 := by have := HW.out.len; have := HZ.out; omega
    have HLI : Hid (Lies1 wr p g b3) := hlies
    obtain ⟨c4, c5⟩ := two_cells hlies.1
    have HHL : Hid (lr ≤ 140737488351232) := hlr
    clear hlies hlr
    rcases HS.out with ⟨rfl, rfl, rfl, rfl, rfl, hYk⟩ | ⟨rfl, hYk⟩
    · cases hb : (bits .and .u8 f 4 == 0)
      · obtain ⟨X, hX⟩ : ∃ X, X = listR (keyR valueR) (zs.drop 0) := ⟨_, rfl⟩
        have hO : opt (bitB f 4) (listR (keyR valueR)) (zs.drop 0) = X := by rw [bitB, hb, hX]; rfl
        rw [rest2, hO] at hYk
        have HX : Hid (X = listR (keyR valueR) (zs.drop 0)) := hX
        have HYK : Hid (Y = if X.err = 0 then rest3 [] [] X.val (0 + X.done) else ⟨default, 0, X.err⟩) := hYk
        clear hO hX hYk
        go_wp2_with fail
        refine (gload (HW.out.1.old (below_one wr _)) (blk_old HLI.out.2.1 (below_one wr _)) (HW.out.2.1.old (below_one wr _)) HHL.out (fun q e hl hq => by have := HW.out.2.2.2.1 q e hl; omega) HX.out).mono ?_
        rintro e w2 ⟨r2, lr2, cr2, rfl, HB, HP2, HK2⟩
        by_cases he : X.err = 0
        · have HN := HYK.out
          rw [if_pos he] at HN
          have HA2 : Hid (At w w2 base p lim zs r2 lr2 cr2 [] [] X.val (0 + X.done)) := (HW.out.old (below_one wr _)).next HB.out he HP2.out HK2.out
          have HNN : Hid (Y = rest3 [] [] X.val (0 + X.done)) := HN
          clear HN
          rw [he]
          go_wp2_with fail
          go_roundw
          case rel => exact ⟨1, r2, lr2, cr2, [], [], X.val, 0 + X.done, by omega, by go_num, rfl, HA2, .inr ⟨rfl, HNN.out⟩⟩
          case measure => simp [intOf]
        · have HN := HYK.out
          rw [if_neg he] at HN
          have t : (X.err == 0) = false := by simpa using he
          have HNN : Hid (Y = ⟨default, 0, X.err⟩) := HN
          have HE : Hid (X.err ≠ 0) := he
          clear HN he
          go_wp2_with fail
          go_ret2
          exact ⟨none, 0, 0, by rw [HNN.out]; rfl, fun _ => rfl, (HW.out.old (below_one wr _)).2.2.2.2.trans HK2.out (fun _ _ e => e), fun h0 => absurd h0 (by rw [HNN.out]; exact HE.out)⟩
      · have hO : opt (bitB f 4) (listR (keyR valueR)) (zs.drop 0) = ⟨default, 0, 0⟩ := by rw [bitB, hb]; rfl
        rw [rest2, hO, if_pos rfl] at hYk
        have HNN : Hid (Y = rest3 [] [] [] 0) := hYk
        clear hO hYk
        go_wp2_with fail
        go_roundw
        case rel => exact ⟨1, r, lr, cr, [], [], [], 0, by omega, by go_num, rfl, HW.out.old (below_one wr _), .inr ⟨rfl, HNN.out⟩⟩
        case measure => simp [intOf]
    · have HNN : Hid (Y = rest3 T ws es d) := hYk
      clear hYk
      have HE : Hid (Y.err = 0) := by rw [HNN.out]; rfl
      have HR : Hid (At w wr base p lim zs r lr cr Y.val.1 Y.val.2.1 Y.val.2.2 Y.done) := by rw [HNN.out]; exact HW.out
      go_wp2_with fail
      go_ret2
      exact ⟨r, lr, cr, by rw [HE.out]; rfl, fun h0 => absurd HE.out h0, HW.out.2.2.2.2, fun _ => HR.out⟩
end Go.Proofs.Ytkcnmmlakimonaa
