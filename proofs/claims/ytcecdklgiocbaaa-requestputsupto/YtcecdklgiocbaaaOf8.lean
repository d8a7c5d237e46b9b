/-
  Values as the document has them: the law's own turning of values.
-/
import Derived.Test.YtcecdklgiocbaaaRefX8
import Derived.Test.YtcecdklgiocbaaaOwnG
namespace Go.Proofs.Ytcecdklgiocbaaa
open Go.RowKit
set_option maxRecDepth 100000
set_option linter.unusedVariables false
set_option linter.unusedSimpArgs false

theorem wpList_appendG_hid {α : Type} [Inhabited α] {e : TypeId} {size : Nat} {V : Vw α} {ops : Array Oper} {rest : List Oper} {o : Oper} {a : Act} {Q : Exit → Act → World → Prop} {w : World} (hgd : o.guard = none) (s y : Operand) (t : TypeId)
    (ho : o.op = .call { callee := .builtin .append, args := #[s, y], argTypes := #[t, t] })
    {bytes : Nat} (hV : StaysG size V) (hE : Elem t e size bytes) {F : Nat → Prop} {v : Value} {xs : List α} (hs : a.eval s = v) (h : OwnG e size V w F v xs)
    {B c : Nat} {news : List Value} {tt : TypeId} {fr : Nat × Nat} (hy : a.eval y = .slice (some ⟨B, 0, none⟩) 1 c) (hB : w.heap[B]? = some (.cells news.toArray tt fr)) (hn : news.length = size) (h1 : ∀ u ∈ news, u.oneCell' = true) (x : α) (hx : V (fun k => k < w.heap.size ∧ v.ownBlock ≠ some k ∧ F k) w x (fun j => news.getD j default))
    (hF : F w.heap.size) (h63 : xs.length + 1 ≤ maxLen) (hbd : (xs.length + 1) * bytes ≤ 140737488355328)
    (hk : Hid (∀ v' w', OwnG e size V w' F v' (xs ++ [x]) → Kept (fun k => v.ownBlock = some k) w w' → (v'.ownBlock = v.ownBlock ∨ v'.ownBlock = some w.heap.size) → wpList Try.prog ops Q rest (a.put o.dst v') w')) : wpList Try.prog ops Q (o :: rest) a w :=
  wpList_appendG hgd s y t ho hV hE hs h hy hB hn h1 x hx hF h63 hbd hk.out

def GVR : Vw Vl := fun _ _ x c => c 0 = .int .i64 x.1 ∧ c 1 = .string x.2
theorem stays_gvr : StaysG 2 GVR := fun _ _ _ _ _ _ _ h hc _ _ _ => ⟨(hc 0 (by omega)).trans h.1, (hc 1 (by omega)).trans h.2⟩
theorem gvr_r (F : Nat → Prop) (w : World) (x : Vl) (c : Nat → Value) (h : GVR F w x c) : VR w x c := h

set_option maxHeartbeats 400000 in
theorem valueOf_any {w : World} {k : Int} {a : Option Addr} {l c : Nat} {s : ByteArray} (h : IsB w a l c (sNums s)) :
    Calls Try.prog 34 #[.agg #[.int .i64 k, .slice a l c]] w fun e w' => e = .returned (.agg #[.int .i64 k, .string s]) ∧ Hid (Below w.heap.size w w') := by
  obtain ⟨w1, hw1⟩ : ∃ w1, w1 = (w.alloc (.cells #[.int .i64 k, .slice a l c] 28)).alloc (.cells #[.int .i64 0, .string ⟨#[]⟩] 43) := ⟨_, rfl⟩
  have hB1 : Below w.heap.size w w1 := by rw [hw1]; exact (below_one _ _).alloc (by simp) _
  have HB1 : Hid (Below w.heap.size w w1) := hB1
  have hq : w1.heap[w.heap.size]? = some (.cells #[.int .i64 k, .slice a l c] 28 (0, 0)) := by
    rw [hw1]
    exact ((below_one (w.alloc (.cells #[.int .i64 k, .slice a l c] 28)) _).block w.heap.size (by simp)).trans (heap_alloc_new w _)
  have hq2 : w1.heap[w.heap.size + 1]? = some (.cells #[.int .i64 0, .string ⟨#[]⟩] 43 (0, 0)) := by
    rw [hw1]
    have := heap_alloc_new (w.alloc (.cells #[.int .i64 k, .slice a l c] 28)) (.cells #[.int .i64 0, .string ⟨#[]⟩] 43)
    simpa using this
  have HW1 : Hid ((w.alloc (.cells #[.int .i64 k, .slice a l c] 28)).alloc (.cells #[.int .i64 0, .string ⟨#[]⟩] 43) = w1) := hw1.symm
  have hcv : (convert 23 9 (.slice a l c)).run Try.prog w1 = .ok (.string s) w1 := by
    have := (h.old hB1).conv
    rw [strOfNums_sNums] at this
    exact this
  obtain ⟨c0, c1, _, _⟩ := two_cells hq
  obtain ⟨e0, e1, f0, f1⟩ := two_cells hq2
  have hl1 := block_lt hq
  have hl2 := block_lt hq2
  clear hw1 hq hB1 h
  go_enter Try.func34, Try.ntmps34
  go_upto_region 1 with fail
  rw [HW1.out]
  clear HW1
  go_wp2_with fail
  have hb := two_set1 (two_set0 hq2 (.int .i64 k)) (.string s)
  have hK : Kept (fun j => j = w.heap.size + 1) w1 ((w1.setCell ⟨w.heap.size + 1, 0, none⟩ (.int .i64 k)).setCell ⟨w.heap.size + 1, 1, none⟩ (.string s)) := ((Kept.refl (fun j => j = w.heap.size + 1) w1).setCell (p := ⟨w.heap.size + 1, 0, none⟩) (fun _ => rfl) _).setCell (p := ⟨w.heap.size + 1, 1, none⟩) (fun _ => rfl) _
  generalize (w1.setCell ⟨w.heap.size + 1, 0, none⟩ (.int .i64 k)).setCell ⟨w.heap.size + 1, 1, none⟩ (.string s) = wF at hb hK ⊢
  obtain ⟨z0, z1, _, _⟩ := two_cells hb
  refine bodyPost_ret (v := .agg #[.int .i64 k, .string s]) (by simp [results, Try.results34, go_sem, z0, z1]) rfl ?_
  exact ⟨rfl, HB1.out.trans (hK.below (by have := HB1.out.size; omega) (fun j hj e => by omega))⟩

set_option maxHeartbeats 1000000 in
theorem valuesOf_any {w : World} {a : Option Addr} {l c : Nat} {vs : List Vl} (h : View 2 VV w a l c vs) (hl : l ≤ 1048576) :
    Calls Try.prog 35 #[.slice a l c] w fun e w' => ∃ v, e = .returned v ∧ Hid (OwnG 43 2 GVR w' (fun k => w.heap.size ≤ k) v vs) ∧ Hid (Below w.heap.size w w') := by
  have H : Hid (View 2 VV w a l c vs) := h
  have HL : Hid (vs.length = l) := h.1
  clear h
  go_enter Try.func35, Try.ntmps35
  go_wp2_with fail
  go_loopw [3, 4] (fun v i wr => ∃ k : Nat, k ≤ l ∧ i = .int .i64 k ∧ Hid (OwnG 43 2 GVR wr (fun k => w.heap.size ≤ k) v (vs.take k)) ∧ Hid (Below w.heap.size w wr)) (fun _ i _ => l - (intOf i).toNat)
  case atStart => exact ⟨0, by omega, rfl, ownG_nil _ _ _ _ _, Below.refl _ _⟩
  case round =>
    obtain ⟨k, hk, rfl, HO, HB⟩ := hrel
    by_cases hlt : k < l
    · obtain ⟨b, off, a1, l1, c1, haa, h0, h1, hI⟩ := H.out.val_at HB.out hlt
      have hkv : k < vs.length := by rw [HL.out]; exact hlt
      obtain ⟨x, hx⟩ : ∃ x, x = vs.getD k default := ⟨_, rfl⟩
      rw [← hx] at h0 hI
      have HTK : Hid (vs.take (k + 1) = vs.take k ++ [x]) := by
        show _ = _
        rw [List.take_succ_eq_append_getElem hkv, hx, List.getD_eq_getElem?_getD, List.getElem?_eq_getElem hkv, Option.getD_some]
      have HLT : Hid ((vs.take k).length = k) := by show _ = _; rw [List.length_take]; omega
      have HI : Hid (IsB w a1 l1 c1 (sNums x.2)) := hI
      obtain ⟨x1, x2⟩ := x
      clear hx hI hkv
      subst haa
      simp only at h0
      go_wp2_with fail
      refine (valueOf_any (HI.out.old HB.out)).mono ?_
      rintro e w3 ⟨rfl, HB3⟩
      have HO3 : Hid (OwnG 43 2 GVR (w3.alloc (.cells #[.int .i64 x1, .string x2] 43)) (fun k => w.heap.size ≤ k) u3 (vs.take k)) := (HO.out.old stays_gvr HB3.out).old stays_gvr (below_one _ _)
      have HBw3 : Hid (Below w.heap.size w w3) := HB.out.trans (HB3.out.mono HB.out.size)
      have HBN : Hid ((w3.alloc (.cells #[.int .i64 x1, .string x2] 43)).heap[w3.heap.size]? = some (.cells [Value.int .i64 x1, Value.string x2].toArray 43 (0, 0))) := heap_alloc_new w3 _
      have HXN : Hid (GVR (fun j => j < (w3.alloc (.cells #[.int .i64 x1, .string x2] 43)).heap.size ∧ u3.ownBlock ≠ some j ∧ w.heap.size ≤ j) (w3.alloc (.cells #[.int .i64 x1, .string x2] 43)) (x1, x2) (fun j => ([Value.int .i64 x1, Value.string x2] : List Value).getD j default)) := ⟨rfl, rfl⟩
      have HFN : Hid ((fun j => w.heap.size ≤ j) (w3.alloc (.cells #[.int .i64 x1, .string x2] 43)).heap.size) := by have := HBw3.out.size; show w.heap.size ≤ _; simp; omega
      go_wp2_with (at_builtin; refine wpList_appendG_hid rfl (.tmp 11) (.tmp 17) 41 rfl stays_gvr elem_rv rfl HO3.out rfl HBN.out rfl ?c1 (x1, x2) HXN.out HFN.out ?c2 ?c3 ?_)
      case c1 => first | exact ⟨rfl, rfl⟩ | (intro u hu; simp at hu; rcases hu with rfl | rfl <;> rfl)
      case c2 => rw [HLT.out]; unfold maxLen; omega
      case c3 => rw [HLT.out]; omega
      intro v4 w4 ho4 hK4 hv4
      have HO4 : Hid (OwnG 43 2 GVR w4 (fun k => w.heap.size ≤ k) v4 (vs.take (k + 1))) := by rw [HTK.out]; exact ho4
      have HB4 : Hid (Below w.heap.size w w4) := (HBw3.out.trans ((below_one w3 (.cells #[.int .i64 x1, .string x2] 43)).mono HBw3.out.size)).trans (hK4.below (by have := HBw3.out.size; simp; omega) (fun j hj e => (HO3.out.lt j e).1))
      clear ho4 hK4 hv4
      go_wp2_with fail
      go_roundw
      case rel => exact ⟨k + 1, by omega, by go_num, HO4, HB4⟩
      case measure => simp [intOf]; omega
    · have HTK : Hid (vs.take k = vs) := by show _ = _; rw [List.take_of_length_le]; rw [HL.out]; omega
      go_wp2_with fail
      go_ret
      exact ⟨_, rfl, by rw [← HTK.out]; exact HO, HB⟩
end Go.Proofs.Ytcecdklgiocbaaa
