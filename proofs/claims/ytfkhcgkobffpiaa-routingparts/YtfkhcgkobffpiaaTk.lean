/-
  The contracts of both Tokens, and of the statements' own texts and same.
-/
import Derived.Test.YtfkhcgkobffpiaaRk
namespace Go.Proofs.Ytfkhcgkobffpiaa
open Go.RowKit
set_option maxRecDepth 100000
set_option linter.unusedVariables false
set_option linter.unusedSimpArgs false

theorem keyB_bs {xs : List (List Int)} (hb : ∀ p ∈ xs, Bs p) : Bs (keyB xs) := by
  unfold keyB
  split
  · rename_i h
    rw [List.getD_eq_getElem?_getD, List.getElem?_eq_getElem (by omega)]
    exact hb _ (List.getElem_mem _)
  · exact keyL_bs xs hb

theorem key_any {w : World} {a : Option Addr} {len cap : Nat} {xs : List (List Int)} (h : View 1 VB w a len cap xs) (h1 : 1 ≤ len) (hl : len ≤ 100000) (hx : ∀ p ∈ xs, p.length ≤ 65535) {K : List Int} (hK : K = keyB xs) :
    Calls Try.prog 10 #[.slice a len cap] w fun e w' => ∃ v, e = .returned (.tuple #[v, .int .i64 0]) ∧ Hid (OwnB w' w.heap.size v K.length K) ∧ Below w.heap.size w w' := by
  by_cases h2 : 2 ≤ len
  · exact key_many h h2 hl hx hK
  · obtain rfl : len = 1 := by omega
    exact key_one h (fun p hp => Nat.le_trans (hx p hp) (by omega)) hK

theorem rkey_any {w : World} {a : Option Addr} {len cap : Nat} {ss : List ByteArray} (h : View 1 VS w a len cap ss) (h1 : 1 ≤ len) (hl : len ≤ 100000) {xs : List (List Int)} (hss : ss = xs.map strOfNums) (hb : ∀ p ∈ xs, Bs p) (hx : ∀ p ∈ xs, p.length ≤ 65535) {K : List Int} (hK : K = keyB xs) :
    Calls Try.prog 11 #[.slice a len cap] w fun e w' => ∃ v, e = .returned (.tuple #[v, .int .i64 0]) ∧ Hid (KeyV w' v K) ∧ Below w.heap.size w w' := by
  by_cases h2 : 2 ≤ len
  · refine (rkey_many h h2 hl hss hb hx hK).mono ?_
    rintro e w' ⟨v, rfl, HO, hB⟩
    exact ⟨v, rfl, HO.out.keyV (by rw [hK]; exact keyB_bs hb), hB⟩
  · obtain rfl : len = 1 := by omega
    exact rkey_one h hss hb (fun p hp => Nat.le_trans (hx p hp) (by omega)) hK

/-- The token of a key. -/
def tokK (K : List Int) : Int := Mur.tok (Mur.sumH (fun i => K.getD i 0) K.length)

set_option maxHeartbeats 400000 in
theorem token_any {w : World} {a : Option Addr} {len cap : Nat} {xs : List (List Int)} (h : View 1 VB w a len cap xs) (h1 : 1 ≤ len) (hl : len ≤ 100000) (hx : ∀ p ∈ xs, p.length ≤ 65535) (hb : ∀ p ∈ xs, Bs p) {T : Int} (hT : T = tokK (keyB xs)) :
    Calls Try.prog 13 #[.slice a len cap] w fun e w' => e = .returned (.tuple #[.int .i64 T, .int .i64 0]) ∧ Below w.heap.size w w' := by
  obtain ⟨K, hK⟩ : ∃ K, K = keyB xs := ⟨_, rfl⟩
  have HC : Hid _ := key_any h h1 hl hx hK
  have HBK : Hid (Bs K) := by rw [hK]; exact keyB_bs hb
  have HT : Hid (Mur.tok (Mur.sumH (fun i => K.getD i 0) K.length) = T) := by show _ = _; rw [hT, ← hK]; rfl
  clear h hx hb hK hT
  go_enter Try.func13, Try.ntmps13
  go_wp2_with fail
  refine Calls.mono HC.out ?_
  rintro e w1 ⟨v, rfl, HO, hB⟩
  obtain ⟨x, c, rfl, hI, hR⟩ := HO.out.keyV HBK.out
  have HR : Hid (Mur.ByR w1 x K.length c (fun i => K.getD i 0)) := hR
  clear hI hR HO
  go_wp2_with fail
  refine (Mur.token_any _ _ _ _ _ HR.out).mono ?_
  rintro e w2 ⟨q, rfl, rfl⟩
  rw [HT.out]
  go_wp2_with fail
  go_ret2
  exact ⟨rfl, below_drewN hB q⟩

set_option maxHeartbeats 400000 in
theorem token_none (a : Option Addr) (cap : Nat) (w : World) : Calls Try.prog 13 #[.slice a 0 cap] w fun e w' => e = .returned (.tuple #[.int .i64 0, .int .i64 1]) ∧ Below w.heap.size w w' := by
  go_enter Try.func13, Try.ntmps13
  go_wp2_with fail
  refine (key_none _ _ _).mono ?_
  rintro e w1 ⟨rfl, rfl⟩
  go_wp2_with fail
  go_ret2
  exact ⟨rfl, Below.refl _ _⟩

set_option maxHeartbeats 400000 in
theorem rtoken_any {w : World} {a : Option Addr} {len cap : Nat} {ss : List ByteArray} (h : View 1 VS w a len cap ss) (h1 : 1 ≤ len) (hl : len ≤ 100000) {xs : List (List Int)} (hss : ss = xs.map strOfNums) (hb : ∀ p ∈ xs, Bs p) (hx : ∀ p ∈ xs, p.length ≤ 65535) (hk : (keyB xs).length ≤ 100000) {T : Int} (hT : T = tokK (keyB xs)) :
    Calls Try.prog 14 #[.slice a len cap] w fun e w' => e = .returned (.tuple #[.int .i64 T, .int .i64 0]) ∧ Below w.heap.size w w' := by
  obtain ⟨K, hK⟩ : ∃ K, K = keyB xs := ⟨_, rfl⟩
  have HC : Hid _ := rkey_any h h1 hl hss hb hx hK
  have HT : Hid (Mur.tok (Mur.sumH (fun i => K.getD i 0) K.length) = T) := by show _ = _; rw [hT, ← hK]; rfl
  rw [← hK] at hk
  have HK : Hid (K.length ≤ 100000) := hk
  clear h hx hb hK hT hss hk
  go_enter Try.func14, Try.ntmps14
  go_wp2_with fail
  refine Calls.mono HC.out ?_
  rintro e w1 ⟨v, rfl, HV, hB⟩
  obtain ⟨x, c, rfl, hI, hR⟩ := HV.out
  have HR : Hid (Mur.ByR w1 x K.length c (fun i => K.getD i 0)) := hR
  clear hI hR HV
  go_wp2_with fail
  refine (Mur.rtoken_any _ _ _ _ _ HK.out HR.out).mono ?_
  rintro e w2 ⟨rfl, rfl⟩
  rw [HT.out]
  go_wp2_with fail
  go_ret2
  exact ⟨rfl, hB⟩

set_option maxHeartbeats 400000 in
theorem rtoken_none (a : Option Addr) (cap : Nat) (w : World) : Calls Try.prog 14 #[.slice a 0 cap] w fun e w' => e = .returned (.tuple #[.int .i64 0, .int .i64 1]) ∧ Below w.heap.size w w' := by
  go_enter Try.func14, Try.ntmps14
  go_wp2_with fail
  refine (rkey_none _ _ _).mono ?_
  rintro e w1 ⟨rfl, rfl⟩
  go_wp2_with fail
  go_ret2
  exact ⟨rfl, Below.refl _ _⟩

theorem map_take_succ {α β : Type} [Inhabited α] (f : α → β) (xs : List α) (k : Nat) (h : k < xs.length) : (xs.take (k + 1)).map f = (xs.take k).map f ++ [f (xs.getD k default)] := by
  rw [List.take_add_one, List.map_append, List.getD_eq_getElem?_getD, List.getElem?_eq_getElem h]
  simp

set_option maxHeartbeats 1000000 in
theorem texts_any {w : World} {a : Option Addr} {len cap : Nat} {xs : List (List Int)} (h : View 1 VB w a len cap xs) (hl : len ≤ 1000000) {ss : List ByteArray} (hss : ss = xs.map strOfNums) :
    Calls Try.prog 12 #[.slice a len cap] w fun e w' => ∃ a' c', e = .returned (.slice a' len c') ∧ Hid (View 1 VS w' a' len c' ss) ∧ Below w.heap.size w w' := by
  have HLX : Hid (xs.length = len) := h.1
  have HSS : Hid (ss = xs.map strOfNums) := hss
  have H : Hid (View 1 VB w a len cap xs) := h
  clear h hss
  go_enter Try.func12, Try.ntmps12
  go_wp2_with fail
  go_loopw [3, 4] (fun v i wr => ∃ (k : Nat), k ≤ len ∧ i = .int .i64 k ∧ Hid (Own 9 1 VS wr (fun k => w.heap.size ≤ k) v ((xs.take k).map strOfNums)) ∧ Below w.heap.size w wr) (fun _ i _ => len - (intOf i).toNat)
  case atStart => exact ⟨0, by omega, rfl, own_nil _ _ _ _ _, Below.refl _ _⟩
  case round =>
    obtain ⟨k, hk, rfl, HO, hB⟩ := hrel
    by_cases hlt : k < len
    · obtain ⟨b, off, a', l, cp, ha, hb, hc0, hI, hl', hlc, hcm'⟩ := H.out.at hlt
      subst ha
      have hc : wr.cell? ⟨b, off + k, none⟩ = some (.slice a' l cp) := (hB.cell (p := ⟨b, off + k, none⟩) hb).trans hc0
      obtain ⟨X, hX⟩ : ∃ X, X = xs.getD k default := ⟨_, rfl⟩
      rw [← hX] at hI
      obtain ⟨S, hS⟩ : ∃ S, S = strOfNums X := ⟨_, rfl⟩
      have cv : (convert 24 9 (.slice a' l cp)).run Try.prog wr = .ok (.string S) wr := by rw [hS]; exact (hI.old hB).conv
      obtain ⟨acc, hacc⟩ : ∃ acc, acc = (xs.take k).map strOfNums := ⟨_, rfl⟩
      have hml : acc.length = k := by rw [hacc, List.length_map, List.length_take, HLX.out]; omega
      rw [← hacc] at HO
      have HN : Hid (acc ++ [S] = (xs.take (k + 1)).map strOfNums) := by
        show _ = _
        rw [map_take_succ strOfNums xs k (by rw [HLX.out]; exact hlt), ← hX, hS, hacc]
      have hbs := hB.size
      have HO2 : Hid (Own 9 1 VS (wr.alloc (.cells #[.string S] 9)) (fun k => w.heap.size ≤ k) u3 acc) := HO.out.old stays_s (below_one wr _)
      have HBN : Hid ((wr.alloc (.cells #[.string S] 9)).heap[wr.heap.size]? = some (.cells [Value.string S].toArray 9 (0, 0))) := heap_alloc_new wr _
      have HM : Hid (acc.length + 1 ≤ maxLen ∧ (acc.length + 1) * 16 ≤ 140737488355328) := by
        show _ ∧ _
        unfold maxLen; omega
      clear hX hS hacc hml hI hl' hc0
      go_wp2_with (at_builtin; refine wpList_append_item rfl (.tmp 11) (.tmp 17) 29 rfl stays_s elem_s rfl HO2.out rfl HBN.out rfl ?c1 S rfl ?c2 ?c3 HM.out.1 HM.out.2 ?_)
      case c1 => intro u hu; simp at hu; subst hu; rfl
      case c2 => intro j k hj hk; obtain rfl : j = 0 := by omega
                 simp [Value.ownBlock] at hk
      case c3 => simp; omega
      intro v3 w3 ho3 hK3 hat3
      have HO3 : Hid (Own 9 1 VS w3 (fun k => w.heap.size ≤ k) v3 ((xs.take (k + 1)).map strOfNums)) := by rw [← HN.out]; exact ho3
      have hB03 : Below w.heap.size w w3 := (hB.alloc hbs _).trans (hK3.below (by simp; omega) (fun k _ e => (HO2.out.lt k e).1))
      clear ho3 hK3 hat3
      go_wp2_with fail
      go_roundw
      case rel => exact ⟨k + 1, by omega, by go_num, HO3, hB03⟩
      case measure => simp [intOf]; omega
    · have HE : Hid (Own 9 1 VS wr (fun k => w.heap.size ≤ k) u3 ss) := by
        have := HO.out
        rw [List.take_of_length_le (by rw [HLX.out]; omega), ← HSS.out] at this
        exact this
      have hsl : ss.length = len := by rw [HSS.out, List.length_map, HLX.out]
      clear HO
      go_wp2_with fail
      go_ret
      obtain ⟨a', c', rfl, hv, _⟩ := HE.out.view
      rw [hsl] at hv ⊢
      exact ⟨a', c', rfl, hv, hB⟩

theorem lists_eq {A B : List ByteArray} (hl : A.length = B.length) (h : ∀ j, j < A.length → A.getD j default = B.getD j default) : A = B := by
  apply List.ext_getElem hl
  intro i h1 h2
  have := h i h1
  rwa [List.getD_eq_getElem?_getD, List.getD_eq_getElem?_getD, List.getElem?_eq_getElem h1, List.getElem?_eq_getElem h2] at this

theorem str_of_list {x y : ByteArray} (h : x.toList = y.toList) : x = y := by
  rw [ByteArray.toList_eq, ByteArray.toList_eq] at h
  exact ByteArray.ext (Array.toList_inj.mp h)

set_option maxHeartbeats 1000000 in
theorem same_any {w : World} {a a' : Option Addr} {len cap len' cap' : Nat} {A B : List ByteArray} (h : View 1 VS w a len cap A) (h' : View 1 VS w a' len' cap' B) {r : Bool} (hr : r = decide (A = B)) :
    Calls Try.prog 17 #[.slice a len cap, .slice a' len' cap'] w fun e w' => e = .returned (.bool r) ∧ ∃ q, w' = w.drewN q := by
  have H : Hid (View 1 VS w a len cap A) := h
  have H' : Hid (View 1 VS w a' len' cap' B) := h'
  have HA : Hid (A.length = len) := h.1
  have HBB : Hid (B.length = len') := h'.1
  have hc1 := h.2.1
  have hc2 : cap ≤ 9223372036854775807 := h.2.2.1
  have hc3 := h'.2.1
  have hc4 : cap' ≤ 9223372036854775807 := h'.2.2.1
  clear h h'
  by_cases hll : len = len'
  · subst hll
    have HR : Hid (r = decide (A = B)) := hr
    clear hr
    go_enter Try.func17, Try.ntmps17
    go_wp2_with fail
    go_loopw [5] (fun i wr => ∃ (k q : Nat), k ≤ len ∧ i = .int .i64 k ∧ wr = w.drewN q ∧ Hid (∀ j, j < k → A.getD j default = B.getD j default)) (fun i _ => len - (intOf i).toNat)
    case atStart => exact ⟨0, 0, by omega, rfl, rfl, fun j hj => by omega⟩
    case round =>
      obtain ⟨k, q, hk, rfl, rfl, HJ⟩ := hrel
      by_cases hlt : k < len
      · obtain ⟨b, off, ha, hb, hc⟩ := H.out.str hlt
        obtain ⟨b', off', ha', hb', hc'⟩ := H'.out.str hlt
        subst ha ha'
        obtain ⟨x, hx⟩ : ∃ x, x = A.getD k default := ⟨_, rfl⟩
        obtain ⟨y, hy⟩ : ∃ y, y = B.getD k default := ⟨_, rfl⟩
        rw [← hx] at hc
        rw [← hy] at hc'
        by_cases hxy : x = y
        · subst hxy
          have HJ2 : Hid (∀ j, j < k + 1 → A.getD j default = B.getD j default) := fun j hj => by
            by_cases e : j = k
            · subst e; rw [← hx, ← hy]
            · exact HJ.out j (by omega)
          clear hx hy HJ
          go_wp2_with fail
          go_quiet (fail)
          go_wp2_with fail
          go_roundw
          case rel => exact ⟨k + 1, q + nq, by omega, by go_num, by simp, HJ2⟩
          case measure => simp [intOf]; omega
        · have HF : Hid (r = false) := by
            show _ = _
            rw [HR.out]
            simp only [decide_eq_false_iff_not]
            intro e
            exact hxy (by rw [hx, hy, e])
          have hne : (x.toList != y.toList) = true := by
            rw [bne_iff_ne]
            exact fun e => hxy (str_of_list e)
          have hne2 : (x.toList == y.toList) = false := by
            rw [beq_eq_false_iff_ne]
            exact fun e => hxy (str_of_list e)
          clear hx hy HJ
          go_wp2_with fail
          go_quiet (fail)
          go_wp2_with fail
          go_ret
          exact ⟨by rw [HF.out]; rfl, q + nq, by simp⟩
      · have HT : Hid (r = true) := by
          show _ = _
          rw [HR.out]
          simp only [decide_eq_true_eq]
          exact lists_eq (by rw [HA.out, HBB.out]) (fun j hj => HJ.out j (by have := HA.out; omega))
        go_wp2_with fail
        go_ret
        exact ⟨by rw [HT.out]; rfl, q, rfl⟩
  · have hne : ((len : Int) != (len' : Int)) = true := by simp; omega
    have HF : Hid (r = false) := by
      show _ = _
      rw [hr]
      simp only [decide_eq_false_iff_not]
      intro e
      exact hll (by rw [← HA.out, ← HBB.out, e])
    clear hr hll
    go_enter Try.func17, Try.ntmps17
    go_wp2_with fail
    go_ret
    exact ⟨by rw [HF.out]; rfl, 0, rfl⟩
end Go.Proofs.Ytfkhcgkobffpiaa
