/-
  The contracts of the statements' own texts, pairs, multis, entries: items as the document has them.
-/
import Derived.Test.YtkcnmmlakimonaaAwake
import Derived.Deep.RegionHeld3
namespace Go.Proofs.Ytkcnmmlakimonaa
open Go.RowKit
set_option linter.unusedVariables false
set_option linter.unusedSimpArgs false

theorem step_append_item {ops : Array Oper} {o : Oper} {a : Act} {w : World} {K : Act → World → Prop} {Q : Exit → Act → World → Prop} {E : Prop} (hgd : o.guard = none) (s y : Operand) (t : TypeId)
    (ho : o.op = .call { callee := .builtin .append, args := #[s, y], argTypes := #[t, t] })
    {α : Type} [Inhabited α] {e : TypeId} {size bytes : Nat} {V : World → α → (Nat → Value) → Prop} (hV : Stays size V) (hE : Elem t e size bytes) {base : Nat} {v : Value} {xs : List α} (hs : a.eval s = v) (h : Own e size V w base v xs)
    {B c : Nat} {news : List Value} {tt : TypeId} {fr : Nat × Nat} (hy : a.eval y = .slice (some ⟨B, 0, none⟩) 1 c) (hB : w.heap[B]? = some (.cells news.toArray tt fr)) (hn : news.length = size) (h1 : ∀ u ∈ news, u.oneCell' = true) (x : α) (hx : V w x (fun j => news.getD j default))
    (hxb : ∀ j k, j < size → (news.getD j default).ownBlock = some k → k < w.heap.size ∧ v.ownBlock ≠ some k ∧ base ≤ k) (h63 : xs.length + 1 ≤ maxLen) (hbd : (xs.length + 1) * bytes ≤ 140737488355328) (hbase : base ≤ w.heap.size)
    (hk : ∀ v' w', Own e size V w' base v' (xs ++ [x]) → Below base w w' → K (a.put o.dst v') w') :
    if Region.wanted o (yielded ops a.tmps) = true then Oper.wp Try.prog o a w K Q else E := by
  have hw : Region.wanted o (yielded ops a.tmps) = true := by simp [Region.wanted, hgd]
  rw [if_pos hw]
  obtain ⟨v', w', hr, h2, h3⟩ := append_item_run hV hE h hB hn h1 x hx hxb h63 hbd hbase o.type c
  unfold Oper.wp
  simp [execOp, ho, resolve, invoke, builtin, hs, hy, hr, Result.andThen]
  exact hk v' w' h2 h3

/-- The five cells of an item that leads nowhere. -/
def flat5 (k t : ByteArray) (n : Int) (b : ByteArray) : List Value := [.string k, .string t, .slice none 0 0, .int .i64 n, .string b]

theorem flat5_one (k t : ByteArray) (n : Int) (b : ByteArray) : ∀ u ∈ flat5 k t n b, u.oneCell' = true := by
  intro u hu
  simp [flat5] at hu
  rcases hu with rfl | rfl | rfl | rfl | rfl <;> rfl
theorem flat5_block {H base : Nat} {v : Value} (k t : ByteArray) (n : Int) (b : ByteArray) : ∀ j i, j < 5 → ((flat5 k t n b).getD j default).ownBlock = some i → i < H ∧ v.ownBlock ≠ some i ∧ base ≤ i := by
  intro j i hj hi
  match j, hj with
  | 0, _ => simp [flat5, Value.ownBlock] at hi
  | 1, _ => simp [flat5, Value.ownBlock] at hi
  | 2, _ => simp [flat5, Value.ownBlock] at hi
  | 3, _ => simp [flat5, Value.ownBlock] at hi
  | 4, _ => simp [flat5, Value.ownBlock] at hi
theorem flat5_vi (w : World) (k t : ByteArray) (n : Int) (b : ByteArray) : VI w (k, t, [], n, b) (fun j => (flat5 k t n b).getD j default) :=
  ⟨rfl, rfl, ⟨none, 0, 0, rfl, view_nil _ _ _⟩, rfl, rfl⟩

def keyIt (s : ByteArray) : It := (s, ByteArray.empty, [], 0, ByteArray.empty)
def pairIt (p : ByteArray × ByteArray) : It := (p.1, p.2, [], 0, ByteArray.empty)
def multiIt (p : ByteArray × List ByteArray) : It := (p.1, ByteArray.empty, p.2, 0, ByteArray.empty)
def entryIt (p : ByteArray × Int × ByteArray) : It := (p.1, ByteArray.empty, [], p.2.1, p.2.2)

theorem map_take_succ {α β : Type} [Inhabited α] (f : α → β) (xs : List α) (k : Nat) (h : k < xs.length) : (xs.take (k + 1)).map f = (xs.take k).map f ++ [f (xs.getD k default)] := by
  rw [List.take_add_one, List.map_append, List.getD_eq_getElem?_getD, List.getElem?_eq_getElem h]
  simp

set_option maxHeartbeats 1000000 in
theorem ctexts_any {w : World} {a : Option Addr} {len cap : Nat} {xs : List ByteArray} (h : View 1 VS w a len cap xs) (hl : len ≤ 100000000) :
    Calls Try.prog 22 #[.slice a len cap] w fun e w' => ∃ v, e = .returned v ∧ Hid (Own 81 5 VI w' w.heap.size v (xs.map keyIt)) ∧ Below w.heap.size w w' := by
  have HLX : Hid (xs.length = len) := h.1
  have H : Hid (View 1 VS w a len cap xs) := h
  clear h
  go_enter Try.func22, Try.ntmps22
  go_wp2_with fail
  go_loopw [3, 4] (fun v i wr => ∃ (k : Nat), k ≤ len ∧ i = .int .i64 k ∧ Hid (Own 81 5 VI wr w.heap.size v ((xs.take k).map keyIt)) ∧ Below w.heap.size w wr) (fun _ i _ => len - (intOf i).toNat)
  case atStart => exact ⟨0, by omega, rfl, own_nil _ _ _ _ _, Below.refl _ _⟩
  case round =>
    obtain ⟨k, hk, rfl, HO, hB⟩ := hrel
    by_cases hlt : k < len
    · obtain ⟨b, off, rfl, hc⟩ := (H.out.old stays_s hB).str hlt
      obtain ⟨s, hs⟩ : ∃ s, s = xs.getD k default := ⟨_, rfl⟩
      rw [← hs] at hc
      have hml : ((xs.take k).map keyIt).length = k := by
        rw [List.length_map, List.length_take, HLX.out]; omega
      have hbs := hB.size
      obtain ⟨acc, hacc⟩ : ∃ acc, acc = (xs.take k).map keyIt := ⟨_, rfl⟩
      rw [← hacc] at HO hml
      have HN : Hid (acc ++ [keyIt s] = (xs.take (k + 1)).map keyIt) := by
        show _ = _
        rw [map_take_succ keyIt xs k (by rw [HLX.out]; exact hlt), ← hs, hacc]
      have HO2 : Hid (Own 81 5 VI (wr.alloc (.cells (flat5 s ⟨#[]⟩ 0 ⟨#[]⟩).toArray 81)) w.heap.size u3 acc) := HO.out.old stays_i (below_one wr _)
      have HBN : Hid ((wr.alloc (.cells (flat5 s ⟨#[]⟩ 0 ⟨#[]⟩).toArray 81)).heap[wr.heap.size]? = some (.cells (flat5 s ⟨#[]⟩ 0 ⟨#[]⟩).toArray 81 (0, 0))) := heap_alloc_new wr _
      have HM : Hid (acc.length + 1 ≤ maxLen ∧ (acc.length + 1) * 80 ≤ 140737488355328) := by
        show _ ∧ _
        unfold maxLen; omega
      clear hs hacc hml
      go_wp2_with (at_builtin; refine wpList_append_item rfl (.tmp 11) (.tmp 17) 31 rfl stays_i elem_i rfl HO2.out rfl HBN.out rfl (flat5_one _ _ _ _) (keyIt s) (flat5_vi _ _ _ _ _) (flat5_block _ _ _ _) HM.out.1 HM.out.2 (by simp; omega) ?_)
      intro v3 w3 ho3 hB3
      have HO3 : Hid (Own 81 5 VI w3 w.heap.size v3 ((xs.take (k + 1)).map keyIt)) := by rw [← HN.out]; exact ho3
      have hB03 : Below w.heap.size w w3 := (hB.alloc hbs _).trans hB3
      clear ho3
      go_wp2_with fail
      go_roundw
      case rel => exact ⟨k + 1, by omega, by go_num, HO3, hB03⟩
      case measure => simp [intOf]; omega
    · have HE : Hid (Own 81 5 VI wr w.heap.size u3 (xs.map keyIt)) := by
        have := HO.out
        rw [List.take_of_length_le (by rw [HLX.out]; omega)] at this
        exact this
      go_wp2_with fail
      go_ret
      exact ⟨_, rfl, HE, hB⟩

theorem View.lt {α : Type} [Inhabited α] {size : Nat} {V : World → α → (Nat → Value) → Prop} {w : World} {a : Option Addr} {len cap : Nat} {xs : List α} (h : View size V w a len cap xs) {b off : Nat} (ha : a = some ⟨b, off, none⟩) (hp : 0 < len) : b < w.heap.size := by
  obtain ⟨b', off', h1, h2, _⟩ := h.2.2.2.2 hp
  rw [ha] at h1
  cases h1
  exact h2

theorem pairs_kept {w wr w3 : World} {o : Obj} {b c0 c1 : Nat} {u0 u1 v3 : Value} {acc : List It} {x : It} {xs : List It} (hN : acc ++ [x] = xs) (hb : b < w.heap.size) (hB : Below w.heap.size w wr) (hc0 : wr.cell? ⟨b, c0, none⟩ = some u0) (hc1 : wr.cell? ⟨b, c1, none⟩ = some u1)
    (ho : Own 81 5 VI w3 w.heap.size v3 (acc ++ [x])) (hB3 : Below w.heap.size (wr.drew.alloc o) w3) : Hid (Own 81 5 VI w3 w.heap.size v3 xs) ∧ Below w.heap.size w w3 ∧ w3.cell? ⟨b, c0, none⟩ = some u0 ∧ w3.cell? ⟨b, c1, none⟩ = some u1 := by
  have h4 : Below w.heap.size wr w3 := ((Below.refl _ wr).drew.alloc hB.size o).trans hB3
  exact ⟨by rw [← hN]; exact ho, hB.trans h4, (h4.cell hb).trans hc0, (h4.cell hb).trans hc1⟩


theorem entries_kept {w wr w3 : World} {o : Obj} {b c0 c1 c2 : Nat} {u0 u1 u2 v3 : Value} {acc : List It} {x : It} {xs : List It} {a1 : Option Addr} {l1 cp : Nat} {bs : ByteArray} (hN : acc ++ [x] = xs) (hb : b < w.heap.size) (hB : Below w.heap.size w wr)
    (hc0 : wr.cell? ⟨b, c0, none⟩ = some u0) (hc1 : wr.cell? ⟨b, c1, none⟩ = some u1) (hc2 : wr.cell? ⟨b, c2, none⟩ = some u2) (hI : IsB w a1 l1 cp (sNums bs)) (ho : Own 81 5 VI w3 w.heap.size v3 (acc ++ [x])) (hB3 : Below w.heap.size (wr.drew.alloc o) w3) :
    Hid (Own 81 5 VI w3 w.heap.size v3 xs) ∧ Below w.heap.size w w3 ∧ w3.cell? ⟨b, c0, none⟩ = some u0 ∧ w3.cell? ⟨b, c1, none⟩ = some u1 ∧ w3.cell? ⟨b, c2, none⟩ = some u2 ∧ (convert 22 9 (.slice a1 l1 cp)).run Try.prog w3 = .ok (.string bs) w3 := by
  have h4 : Below w.heap.size wr w3 := ((Below.refl _ wr).drew.alloc hB.size o).trans hB3
  have hcv := (hI.old (hB.trans h4)).conv
  rw [strOfNums_sNums] at hcv
  exact ⟨by rw [← hN]; exact ho, hB.trans h4, (h4.cell hb).trans hc0, (h4.cell hb).trans hc1, (h4.cell hb).trans hc2, hcv⟩

set_option maxRecDepth 100000 in
set_option maxHeartbeats 2000000 in
theorem centries_any {w : World} {a : Option Addr} {len cap : Nat} {xs : List (ByteArray × Int × ByteArray)} (h : View 3 VE w a len cap xs) (hl : len ≤ 100000000) :
    Calls Try.prog 23 #[.slice a len cap] w fun e w' => ∃ v, e = .returned v ∧ Hid (Own 81 5 VI w' w.heap.size v (xs.map entryIt)) ∧ Below w.heap.size w w' := by
  have HLX : Hid (xs.length = len) := h.1
  have H : Hid (View 3 VE w a len cap xs) := h
  have HBL : Hid (∀ b off, a = some ⟨b, off, none⟩ → 0 < len → b < w.heap.size) := fun b off e hp => h.lt e hp
  clear h
  go_enter Try.func23, Try.ntmps23
  go_wp2_with fail
  go_loopw [3, 4] (fun v i wr => ∃ (k : Nat), k ≤ len ∧ i = .int .i64 k ∧ Hid (Own 81 5 VI wr w.heap.size v ((xs.take k).map entryIt)) ∧ Below w.heap.size w wr) (fun _ i _ => len - (intOf i).toNat)
  case atStart => exact ⟨0, by omega, rfl, own_nil _ _ _ _ _, Below.refl _ _⟩
  case round =>
    obtain ⟨k, hk, rfl, HO, hB⟩ := hrel
    by_cases hlt : k < len
    · obtain ⟨b, off, a1, l1, c1, rfl, hc0w, hc1w, hc2w, hI⟩ := H.out.entry hlt
      have hbw : b < w.heap.size := HBL.out b off rfl (by omega)
      have hc0 := (hB.cell (p := ⟨b, off + k * 3, none⟩) hbw).trans hc0w
      have hc1 := (hB.cell (p := ⟨b, off + k * 3 + 1, none⟩) hbw).trans hc1w
      have hc2 := (hB.cell (p := ⟨b, off + k * 3 + 2, none⟩) hbw).trans hc2w
      clear hc0w hc1w hc2w
      obtain ⟨s, hs⟩ : ∃ s, s = xs.getD k default := ⟨_, rfl⟩
      rw [← hs] at hc0 hc1 hI
      have HI : Hid (IsB _ _ _ _ _) := hI
      have hcv0 : (convert 22 9 (.slice a1 l1 c1)).run Try.prog wr.drew = .ok (.string s.2.2) wr.drew := by
        have := (hI.old hB.drew).conv
        rw [strOfNums_sNums] at this; exact this
      clear hI
      have hml : ((xs.take k).map entryIt).length = k := by
        rw [List.length_map, List.length_take, HLX.out]; omega
      have hbs := hB.size
      obtain ⟨acc, hacc⟩ : ∃ acc, acc = (xs.take k).map entryIt := ⟨_, rfl⟩
      rw [← hacc] at HO hml
      have HN : Hid (acc ++ [entryIt s] = (xs.take (k + 1)).map entryIt) := by
        show _ = _
        rw [map_take_succ entryIt xs k (by rw [HLX.out]; exact hlt), ← hs, hacc]
      have HO2 : Hid (Own 81 5 VI (wr.drew.alloc (.cells (flat5 s.1 ⟨#[]⟩ s.2.1 s.2.2).toArray 81)) w.heap.size u3 acc) := HO.out.old stays_i ((Below.refl _ _).drew.alloc (Nat.le_refl _) _)
      have HBN : Hid ((wr.drew.alloc (.cells (flat5 s.1 ⟨#[]⟩ s.2.1 s.2.2).toArray 81)).heap[wr.heap.size]? = some (.cells (flat5 s.1 ⟨#[]⟩ s.2.1 s.2.2).toArray 81 (0, 0))) := heap_alloc_new wr.drew _
      have HM : Hid (acc.length + 1 ≤ maxLen ∧ (acc.length + 1) * 80 ≤ 140737488355328) := by
        show _ ∧ _
        unfold maxLen; omega
      have hcv1 : (convert 22 9 (.slice a1 l1 c1)).run Try.prog (wr.drew.alloc (.cells (flat5 s.1 ⟨#[]⟩ s.2.1 s.2.2).toArray 81)) = .ok (.string s.2.2) (wr.drew.alloc (.cells (flat5 s.1 ⟨#[]⟩ s.2.1 s.2.2).toArray 81)) := by
        have := (HI.out.old (hB.drew.alloc hbs (.cells (flat5 s.1 ⟨#[]⟩ s.2.1 s.2.2).toArray 81))).conv
        rw [strOfNums_sNums] at this; exact this
      have HSZ : Hid (w.heap.size ≤ (wr.drew.alloc (.cells (flat5 s.1 ⟨#[]⟩ s.2.1 s.2.2).toArray 81)).heap.size) := by
        show _ ≤ _
        simp; omega
      clear hs hacc hml
      have HB9 : Hid (b < w.heap.size) := hbw
      go_wp2_with fail
      go_region_held3 (fun w' => w'.cell? ⟨b, off + k * 3, none⟩ = some (.string s.1) ∧ w'.cell? ⟨b, off + k * 3 + 1, none⟩ = some (.int .i64 s.2.1) ∧ w'.cell? ⟨b, off + k * 3 + 2, none⟩ = some (.slice a1 l1 c1) ∧ (convert 22 9 (.slice a1 l1 c1)).run Try.prog w' = .ok (.string s.2.2) w') (refine ⟨?_, ?_, ?_, ?_⟩ <;> first | assumption | (simp [*, World.cell?_alloc_some]; done))
        (first
          | (refine step_append_item rfl (.tmp 11) (.tmp 32) 31 rfl stays_i elem_i (by rfl) HO2.out (by rfl) HBN.out rfl (flat5_one _ _ _ _) (entryIt s) (flat5_vi _ _ _ _ _) (flat5_block _ _ _ _) HM.out.1 HM.out.2 HSZ.out ?_; intro v3 w3 ho3 hB3; obtain ⟨HO3, hB03, hd0, hd1, hd2, hcv3⟩ := entries_kept HN.out HB9.out hB hc0 hc1 hc2 HI.out ho3 hB3; clear ho3 hB3))
      go_wp2_with fail
      go_roundw
      case rel => exact ⟨k + 1, by omega, by go_num, HO3, hB03⟩
      case measure => simp [intOf]; omega
    · have HE : Hid (Own 81 5 VI wr w.heap.size u3 (xs.map entryIt)) := by
        have := HO.out
        rw [List.take_of_length_le (by rw [HLX.out]; omega)] at this
        exact this
      go_wp2_with fail
      go_ret
      exact ⟨_, rfl, HE, hB⟩



theorem strs_one (ss : List ByteArray) : ∀ u ∈ ss.map Value.string, u.oneCell' = true := by
  intro u hu
  obtain ⟨s, _, rfl⟩ := List.mem_map.1 hu
  rfl

theorem View.news {w : World} {x : Addr} {len cap : Nat} {ss : List ByteArray} (h : View 1 VS w (some x) len cap ss) : ∀ j u, (ss.map Value.string)[j]? = some u → w.cell? (x.add j) = some u := by
  intro j u hj
  have hjl : j < len := by have := (List.getElem?_eq_some_iff.1 hj).1; rw [List.length_map, h.1] at this; exact this
  obtain ⟨b, off, hx, hc⟩ := h.str hjl
  cases hx
  have hplain : (⟨b, off, none⟩ : Addr).add j = ⟨b, off + j, none⟩ := by unfold Addr.add; split <;> simp_all
  rw [hplain, hc, ← hj, List.getElem?_map, List.getD_eq_getElem?_getD, List.getElem?_eq_getElem (by rw [h.1]; exact hjl)]
  rfl

/-- A list of texts, copied onto nothing. -/
theorem append_strs_run {w : World} {xa : Option Addr} {len cap : Nat} {ss : List ByteArray} (h : View 1 VS w xa len cap ss) (hbd : len * 16 ≤ 140737488355328) (ty : TypeId) :
    ∃ v' w', (Builtin.append_ #[24, 24] ty #[.slice none 0 0, .slice xa len cap]).run Try.prog w = .ok v' w' ∧ Own 9 1 VS w' w.heap.size v' ss ∧ Below w.heap.size w w' := by
  obtain ⟨i0, hi, hz0, hz1, hz2⟩ := info_parts Try.info9
  cases xa with
  | none =>
    obtain ⟨h1, h2, h3, h4, h5⟩ := h
    obtain ⟨rfl, rfl⟩ := h4 rfl
    obtain rfl : ss = [] := List.eq_nil_of_length_eq_zero h1
    exact ⟨_, w, run_append_owned_none (P := Try.prog) (w := w) w.heap.size 24 ty 9 i0 1 Try.underlying24 hi (.slice none 0 0) 0 [] (World.ownsRow_nil _ _ _ _), own_nil _ _ _ _ _, Below.refl _ _⟩
  | some x =>
    have hl : (ss.map Value.string).length = len * 1 := by rw [List.length_map, h.1, Nat.mul_one]
    obtain ⟨v', w', hr, h2, h3, h4⟩ := run_append_own (P := Try.prog) w w.heap.size 24 ty 9 i0 (.string ⟨#[]⟩) 1 16 Try.underlying24 hi hz0 hz1 hz2 rfl (by decide) (.slice none 0 0) 0 [] (World.ownsRow_nil _ _ _ _) x len cap _ hl h.news (strs_one ss) (by unfold maxLen; omega) (by omega) (Nat.le_refl _)
    rw [Nat.zero_add, List.nil_append] at h2
    refine ⟨v', w', hr, ⟨_, by rw [h.1]; exact h2, fun i hi => ?_⟩, (Below.refl _ _).grown h3 (Nat.le_refl _) (fun k hk => by simp [Value.ownBlock] at hk)⟩
    have e : (ss.map Value.string).getD (i * 1 + 0) default = .string (ss.getD i default) := by
      rw [List.getD_eq_getElem?_getD, List.getD_eq_getElem?_getD, List.getElem?_map, Nat.mul_one, Nat.add_zero, List.getElem?_eq_getElem hi]
      rfl
    refine ⟨e, fun j k hj hk => ?_⟩
    obtain rfl : j = 0 := by omega
    rw [e] at hk
    simp [Value.ownBlock] at hk

theorem wpList_append_strs {ops : Array Oper} {rest : List Oper} {o : Oper} {a : Act} {w : World} {Q : Exit → Act → World → Prop} (hgd : o.guard = none) (s y : Operand)
    (ho : o.op = .call { callee := .builtin .append, args := #[s, y], argTypes := #[24, 24] }) (hs : a.eval s = .slice none 0 0)
    {xa : Option Addr} {len cap : Nat} {ss : List ByteArray} (hx : a.eval y = .slice xa len cap) (h : View 1 VS w xa len cap ss) (hbd : len * 16 ≤ 140737488355328)
    (hk : ∀ v' w', Own 9 1 VS w' w.heap.size v' ss → Below w.heap.size w w' → wpList Try.prog ops Q rest (a.put o.dst v') w') : wpList Try.prog ops Q (o :: rest) a w := by
  refine wpList_plain hgd fun K hK => ?_
  obtain ⟨v', w', hr, h2, h3⟩ := append_strs_run h hbd o.type
  unfold Oper.wp
  simp [execOp, ho, resolve, invoke, builtin, hs, hx, hr, Result.andThen]
  exact hK _ _ (hk v' w' h2 h3)

/-- The five cells of an item with texts. -/
def lead5 (k : ByteArray) (a : Option Addr) (l c : Nat) : List Value := [.string k, .string ⟨#[]⟩, .slice a l c, .int .i64 0, .string ⟨#[]⟩]
theorem lead5_one (k : ByteArray) (a : Option Addr) (l c : Nat) : ∀ u ∈ lead5 k a l c, u.oneCell' = true := by
  intro u hu
  simp [lead5] at hu
  rcases hu with rfl | rfl | rfl | rfl | rfl <;> rfl
theorem lead5_block {H base base0 : Nat} {w : World} {v : Value} (s : ByteArray) {x : Option Addr} {l c : Nat} (hb0 : base0 ≤ base) (hF : Fresh base w x) (hH : w.heap.size ≤ H) (hv : ∀ k, v.ownBlock = some k → k < base) : ∀ j i, j < 5 → ((lead5 s x l c).getD j default).ownBlock = some i → i < H ∧ v.ownBlock ≠ some i ∧ base0 ≤ i := by
  intro j i hj hi
  match j, hj with
  | 0, _ => simp [lead5, Value.ownBlock] at hi
  | 1, _ => simp [lead5, Value.ownBlock] at hi
  | 3, _ => simp [lead5, Value.ownBlock] at hi
  | 4, _ => simp [lead5, Value.ownBlock] at hi
  | 2, _ =>
    cases x with
    | none => simp [lead5, Value.ownBlock] at hi
    | some p =>
      simp [lead5, Value.ownBlock] at hi
      have := hF p rfl
      refine ⟨by omega, fun e => ?_, by omega⟩
      have := hv i e
      omega
theorem lead5_vi {w : World} (k : ByteArray) {a : Option Addr} {l c : Nat} {ss : List ByteArray} (h : View 1 VS w a l c ss) : VI w (k, ByteArray.empty, ss, 0, ByteArray.empty) (fun j => (lead5 k a l c).getD j default) :=
  ⟨rfl, rfl, ⟨a, l, c, rfl, h⟩, rfl, rfl⟩


end Go.Proofs.Ytkcnmmlakimonaa
