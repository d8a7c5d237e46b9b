/-
  OctetsTakes walked: it answers true, and turns nothing that was there.
-/
import Derived.Test.YthdcnmidfgcpaaaArg
namespace Go.Proofs.Ythdcnmidfgcpaaa
open Go.RowKit
set_option linter.unusedVariables false

set_option maxHeartbeats 1000000 in
theorem takes_short (a : Option Addr) (len cap : Nat) (n : Int) (w : World) (hm : len ≤ maxLen) (h : (len : Int) < n) :
    Calls Try.prog 5 #[.slice a len cap, .int .u64 n] w fun e w' => e = .returned (.bool true) ∧ Below w.heap.size w w' := by
  have HM : Hid (len ≤ maxLen) := hm
  unfold maxLen at hm
  go_enter Try.func5, Try.ntmps5
  go_wp2_with fail
  refine (awake_any _).mono ?_
  rintro e w1 ⟨rfl, hB1⟩
  go_wp2_with fail
  refine (take_short _ _ _ _ _ HM.out h).mono ?_
  rintro e w2 ⟨rfl, rfl⟩
  go_wp2
  go_ret
  exact ⟨rfl, hB1⟩

/-- The cells of a row of the bytes X. -/
theorem row_cell {w : World} {g : Nat} {X : List Int} (h : w.heap[g]? = some (.cells (X.map (Value.int .u8)).toArray 5 (0, 0))) (i : Nat) (hi : i < X.length) :
    w.cell? ⟨g, i, none⟩ = some (.int .u8 (X.getD i 0)) := by
  rw [Lib.cell_of_heap h]; simp [hi]

theorem row_conv {w : World} {g : Nat} {X : List Int} (h : w.heap[g]? = some (.cells (X.map (Value.int .u8)).toArray 5 (0, 0))) (n : Nat) (hn : X.length = n) :
    (convert 23 9 (.slice (some ⟨g, 0, none⟩) n n)).run Try.prog w = .ok (.string (strOfNums X)) w :=
  run_convert_bytes_arg (P := Try.prog) w 23 5 Try.underlying23 Try.underlying5 g 0 n n X hn (fun i hi => by rw [Nat.zero_add]; exact row_cell h i (by omega)) 9 Try.underlying9

theorem row_set {w : World} {g k : Nat} {X : List Int} (h : w.heap[g]? = some (.cells (X.map (Value.int .u8)).toArray 5 (0, 0))) (z : Int) :
    (w.setCell ⟨g, k, none⟩ (.int .u8 z)).heap[g]? = some (.cells ((X.set k z).map (Value.int .u8)).toArray 5 (0, 0)) := by
  rw [heap_setCell_same w g k _ 5 _ h]
  congr 2
  apply Array.ext'
  simp [List.map_set]

set_option maxHeartbeats 1000000 in
theorem takes_core (a : Option Addr) (len cap n : Nat) (X : List Int) (R : ByteArray) (w : World) (hl : n ≤ len) (hc : len ≤ cap) (hm : cap ≤ 140737488351232) (hX : X.length = n) (hR : R.size = len - n)
    (hTake : ∀ w1, Below w.heap.size w w1 → Calls Try.prog 15 #[.slice a len cap, .int .u64 n] w1 fun e w2 => ∃ r, e = .returned (.tuple #[.slice (some ⟨w1.heap.size, 0, none⟩) n n, .slice r (len - n) (cap - n), .int .i64 0]) ∧
      w2.heap[w1.heap.size]? = some (.cells (X.map (Value.int .u8)).toArray 5 (0, 0)) ∧ Below w1.heap.size w1 w2 ∧
      (convert 23 9 (.slice r (len - n) (cap - n))).run Try.prog w2 = .ok (.string R) w2)
    (hconv : ∀ wx, Below w.heap.size w wx → (convert 23 9 (.slice a len cap)).run Try.prog wx = .ok (.string (strOfNums X ++ R)) wx) :
    Calls Try.prog 5 #[.slice a len cap, .int .u64 n] w fun e w' => e = .returned (.bool true) ∧ Below w.heap.size w w' := by
  have HT := hTake
  have HTake : Hid (∀ w1, Below w.heap.size w w1 → Calls Try.prog 15 #[.slice a len cap, .int .u64 n] w1 fun e w2 => ∃ r, e = .returned (.tuple #[.slice (some ⟨w1.heap.size, 0, none⟩) n n, .slice r (len - n) (cap - n), .int .i64 0]) ∧
      w2.heap[w1.heap.size]? = some (.cells (X.map (Value.int .u8)).toArray 5 (0, 0)) ∧ Below w1.heap.size w1 w2 ∧
      (convert 23 9 (.slice r (len - n) (cap - n))).run Try.prog w2 = .ok (.string R) w2) := hTake
  have HConv : Hid (∀ wx, Below w.heap.size w wx → (convert 23 9 (.slice a len cap)).run Try.prog wx = .ok (.string (strOfNums X ++ R)) wx) := hconv
  have HXn : Hid (X.length = n) := hX
  have hS : (strOfNums X).size ≤ n := by rw [strOfNums_size]; omega
  have hR' : R.size ≤ len - n := by omega
  clear hTake hconv HT hX hR
  go_enter Try.func5, Try.ntmps5
  go_wp2_with fail
  refine (awake_any _).mono ?_
  rintro e w1 ⟨rfl, hB1⟩
  go_wp2_with fail
  refine (HTake.out w1 hB1).mono ?_
  rintro e w2 ⟨r, rfl, hrow, hB2, hcr⟩
  have hB : Below w.heap.size w w2 := hB1.trans (hB2.mono hB1.size)
  have hcc := row_conv hrow n HXn.out
  have hcb := HConv.out w2 hB
  have HRow : Hid (w2.heap[w1.heap.size]? = some (.cells (X.map (Value.int .u8)).toArray 5 (0, 0))) := hrow
  clear hrow HTake
  obtain ⟨S, hS'⟩ : ∃ S, S = strOfNums X := ⟨_, rfl⟩
  rw [← hS'] at hS hcc hcb HConv
  clear hS'
  have hg : w.heap.size ≤ w1.heap.size := hB1.size
  go_wp2_with fail
  go_loopw [10] (fun i wr => ∃ k : Nat, k ≤ n ∧ i = .int .i64 k ∧ Below w.heap.size w wr ∧ ∃ Y : List Int, Y.length = n ∧ Hid (wr.heap[w1.heap.size]? = some (.cells (Y.map (Value.int .u8)).toArray 5 (0, 0)))) (fun i _ => n - (intOf i).toNat)
  case atStart => exact ⟨0, by omega, rfl, hB, X, HXn.out, HRow⟩
  case round =>
    obtain ⟨k, hk, rfl, hBr, Y, hY, HY⟩ := hrel
    have HYn : Hid (Y.length = n) := hY
    by_cases hlt : k < n
    · have hck : wr.cell? ⟨w1.heap.size, k, none⟩ = some (.int .u8 (Y.getD k 0)) := row_cell HY.out k (by omega)
      have hfk : wr.frozen? ⟨w1.heap.size, k, none⟩ = false := frozen_of_row wr _ k _ _ HY.out
      clear hY hcb hcc hcr
      go_wp2
      go_roundw
      case rel => exact ⟨k + 1, by omega, by go_num, hBr.setCell hg _, _, by rw [List.length_set]; exact HYn.out, row_set HY.out _⟩
      case measure => simp [intOf]; omega
    · have hcw := HConv.out wr hBr
      clear hY hcb hcc hcr
      go_wp2
      go_ret
      exact ⟨by simp, hBr⟩

set_option maxHeartbeats 400000 in
theorem take_void (a : Option Addr) (w : World) :
    Calls Try.prog 15 #[.slice a 0 0, .int .u64 0] w fun e w' =>
      e = .returned (.tuple #[.slice (some ⟨w.heap.size, 0, none⟩) 0 0, .slice a 0 0, .int .i64 0]) ∧
      w'.heap[w.heap.size]? = some (.cells #[] 5 (0, 0)) ∧ Below w.heap.size w w' := by
  have hmk := fun w => run_make_row' (P := Try.prog) 23 5 (.int .u8 0) 1 Try.underlying23 Try.info5 rfl .u64 .u64 0 (by omega) (by omega) w
  have e0 : madeCells #[.int .u8 0] 0 = #[] := by simp [madeCells]
  simp only [e0, Int.natCast_zero] at hmk
  go_enter Try.func15, Try.ntmps15
  go_wp2_with (refine wpList_copy_splice rfl (.tmp 15) (.tmp 16) 23 23 rfl 5 Try.underlying23 Try.size5 _ _ _ _ _ _ rfl rfl w.heap.size 0 [] 5 ?ca [] ?cb ?cc ?cd ?ce w.heap.size w ?cf ?cg ?_; rotate_right; intro w2 hG hB)
  case ca => exact heap_alloc_new w _
  case cb => rfl
  case cd => simp
  case ce => intro v hv; simp at hv
  case cf => exact (Below.refl _ _).alloc (Nat.le_refl _) _
  case cg => exact Nat.le_refl _
  go_quiet (fail)
  go_wp2
  go_ret3
  refine ⟨rfl, ?_, ?_⟩
  · have h := hG.out; simpa [splice] using h
  · exact below_drewN hB _

theorem str_join (A B : List Int) : strOfNums A ++ strOfNums B = strOfNums (A ++ B) := by
  apply ByteArray.ext
  apply Array.ext'
  simp [strOfNums, ByteArray.data_append]

theorem takes_walk (a : Option Addr) (len cap : Nat) (zs : List Int) (n : Int) (w : World) (h : IsRow .u8 w a len cap zs) (hreach : cap * 1 ≤ 140737488351232) (wn : (Lit.int .u64 n).wf = true) :
    Calls Try.prog 5 #[.slice a len cap, .int .u64 n] w fun e w' => e = .returned (.bool true) ∧ Below w.heap.size w w' := by
  have hle := h.le
  have hn := bounds_u64 wn
  by_cases hs : (len : Int) < n
  · exact takes_short a len cap n w (Nat.le_trans hle.1 hle.2) hs
  · obtain ⟨m, rfl⟩ := Int.eq_ofNat_of_zero_le hn.1
    by_cases hc0 : cap = 0
    · have hl0 : len = 0 := by omega
      have hm0 : m = 0 := by omega
      subst hc0 hl0 hm0
      refine takes_core a 0 0 0 [] ByteArray.empty w (by omega) (by omega) (by omega) rfl rfl ?_ ?_
      · intro w1 hB1
        refine (take_void a w1).mono ?_
        rintro e w2 ⟨rfl, hrow, hB2⟩
        exact ⟨a, rfl, hrow, hB2, conv_void a 0 w2⟩
      · intro wx _
        exact conv_void a 0 wx
    · obtain ⟨b, off, rfl, hlc, hm, hz, hb, hcell, hwf⟩ := h.at (by omega)
      have hcells : ∀ wx, Below w.heap.size w wx → ∀ i, i < len → wx.cell? ⟨b, off + i, none⟩ = some (.int .u8 (zs.getD i 0)) := fun wx hB i hi => (hB.cell hb).trans (hcell i (by omega))
      refine takes_core _ len cap m (zs.take m) (strOfNums ((zs.take len).drop m)) w (by omega) hlc (by omega) (by simp; omega) (by rw [strOfNums_size]; simp; omega) ?_ ?_
      · intro w1 hB1
        refine (take_yes b off len cap m zs w1 (by omega) hlc (by omega) (hcells w1 hB1) (by omega) (fun _ => Nat.lt_of_lt_of_le hb hB1.size)).mono ?_
        rintro e w2 ⟨off', ho, rfl, hrow, hB2⟩
        have hB : Below w.heap.size w w2 := hB1.trans (hB2.mono hB1.size)
        refine ⟨_, rfl, hrow, hB2, ?_⟩
        have := conv_rest w w2 b off off' m len cap (cap - m) zs (by omega) (by omega) ho (hcells w2 hB) 0
        exact this
      · intro wx hB
        have := conv_rest w wx b off off 0 len cap cap zs (by omega) (by omega) (fun _ => rfl) (hcells wx hB) 0
        have e : strOfNums (zs.take m) ++ strOfNums ((zs.take len).drop m) = strOfNums ((zs.take len).drop 0) := by
          rw [str_join]
          have : zs.take m = (zs.take len).take m := by rw [List.take_take]; congr 1; omega
          rw [this, List.take_append_drop, List.drop_zero]
        rw [e]
        exact this

end Go.Proofs.Ythdcnmidfgcpaaa
