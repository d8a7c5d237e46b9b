/-
  The contract of the document's Key.
-/
import Derived.Test.YtfkhcgkobffpiaaKy
import Derived.Test.YtfkhcgkobffpiaaMuH
import Derived.Lib.ConvBytes
import Derived.Lib.EndianMore
import Derived.Deep.MidRow
namespace Go.Proofs.Ytfkhcgkobffpiaa
open Go.RowKit
set_option maxRecDepth 100000
set_option linter.unusedVariables false
set_option linter.unusedSimpArgs false

/-- A key in memory, as it is compared and as the sum takes it. -/
def KeyV (w : World) (v : Value) (K : List Int) : Prop :=
  ∃ a cap, v = .slice a K.length cap ∧ IsB w a K.length cap K ∧ Mur.ByR w a K.length cap (fun i => K.getD i 0)

theorem bs_getD {K : List Int} (h : Bs K) : ∀ i : Nat, 0 ≤ K.getD i 0 ∧ K.getD i 0 ≤ 255 := fun i => by rw [List.getD_eq_getElem?_getD]; exact h i

theorem OwnB.keyV {w : World} {base : Nat} {v : Value} {K : List Int} (h : OwnB w base v K.length K) (hr : Bs K) : KeyV w v K := by
  obtain ⟨x, cap, rfl, hI, _⟩ := h.isB0 hr
  refine ⟨x, cap, rfl, hI, bs_getD hr, ?_⟩
  rcases h.2 with ⟨e, h0⟩ | ⟨g, cap', cur, e, hg, hh, hc, hm, hs, hx⟩
  · simp only [Value.slice.injEq] at e
    exact .inl ⟨by omega, e.2.2⟩
  · simp only [Value.slice.injEq] at e
    obtain ⟨rfl, _, rfl⟩ := e
    refine .inr ⟨g, 0, rfl, hc, hm, fun t ht => ?_⟩
    rw [Nat.zero_add, World.ownsRow.cellAt h t (by omega)]
    simp [ht]

theorem KeyV.old {w W : World} {v : Value} {K : List Int} (h : KeyV w v K) (hB : Below w.heap.size w W) : KeyV W v K := by
  obtain ⟨a, cap, rfl, hI, hr, hR⟩ := h
  refine ⟨a, cap, rfl, hI.old hB, hr, ?_⟩
  rcases hR with hR | ⟨b, off, rfl, h1, h2, h3⟩
  · exact .inl hR
  · refine .inr ⟨b, off, rfl, h1, h2, fun i hi => ?_⟩
    have hb := block_lt_of_cell (h3 i hi)
    exact (hB.cell (p := ⟨b, off + i, none⟩) hb).trans (h3 i hi)

/-- '[]byte(s)'. -/
theorem conv_key (w : World) (s : ByteArray) (hs : s.size ≤ maxLen) : ∃ v w', (convert 9 24 (.string s)).run Try.prog w = .ok v w' ∧ KeyV w' v (sNums s) ∧ Below w.heap.size w w' := by
  have hge := grownCap_ge w s.size 0 5
  have hcap : grownCap w s.size 0 5 ≤ maxLen := grownCap_le_maxLen w s.size 0 5 hs
  have hcell : ∀ i, i < s.size → (Lib.bytesWorld w 5 s).cell? ⟨w.heap.size, i, none⟩ = some (.int .u8 ((sNums s).getD i 0)) := fun i hi => by
    rw [Lib.bytesWorld_cell w 5 s i hi]
    simp [sNums, List.getD_eq_getElem?_getD, hi]
  refine ⟨_, _, Lib.run_convert_string_bytes (P := Try.prog) w 9 24 5 s Try.underlying9 Try.underlying24 Try.underlying5, ⟨some ⟨w.heap.size, 0, none⟩, grownCap w s.size 0 5, by rw [sNums_length], ?_, ?_⟩,
    ⟨rfl, rfl, rfl, by rw [Lib.bytesWorld_size]; omega, fun k hk => Lib.bytesWorld_at_old w 5 s k hk⟩⟩
  · rw [sNums_length]
    exact ⟨sNums_length s, hge, hcap, (fun e => by cases e), fun hp => ⟨_, 0, rfl, sNums_length s, hge, hcap, fun _ => by rw [Lib.bytesWorld_size]; omega, fun i hi => by rw [Nat.zero_add]; exact hcell i hi, sNums_range s⟩⟩
  · rw [sNums_length]
    exact ⟨bs_getD (sNums_range s), .inr ⟨_, 0, rfl, hge, hcap, fun i hi => by rw [Nat.zero_add]; exact hcell i hi⟩⟩

theorem wpList_conv_key {ops : Array Oper} {rest : List Oper} {o : Oper} {a : Act} {w : World} {Q : Exit → Act → World → Prop} (hgd : o.guard = none) (x : Operand) (ho : o.op = .convert 9 24 x) {s : ByteArray} (hx : a.eval x = .string s) (hs : s.size ≤ maxLen)
    (h : ∀ v' w', KeyV w' v' (sNums s) → Below w.heap.size w w' → wpList Try.prog ops Q rest (a.put o.dst v') w') : wpList Try.prog ops Q (o :: rest) a w := by
  refine wpList_plain hgd fun K hK => ?_
  obtain ⟨v', w', hr, h2, h3⟩ := conv_key w s hs
  unfold Oper.wp
  simp [execOp, ho, hx, hr, Result.andThen]
  exact hK _ _ (h v' w' h2 h3)

theorem own_text {w : World} {base : Nat} {v : Value} {n : Nat} {S : ByteArray} {X : List Int} (h : w.ownsRow base 5 1 v (n + S.size) (X.map (Value.int .u8) ++ Lib.strCells S)) : OwnB w base v (n + S.size) (X ++ sNums S) := by
  rw [sNums_cells, ← List.map_append] at h; exact h

theorem append_text_run {w : World} {base : Nat} {v : Value} {n : Nat} {X : List Int} (hown : OwnB w base v n X) (S : ByteArray) (hbd : n + S.size ≤ 140737488355328) (hbase : base ≤ w.heap.size) (ty : TypeId) :
    ∃ v' w', (Builtin.append_ #[24, 9] ty #[v, .string S]).run Try.prog w = .ok v' w' ∧ OwnB w' base v' (n + S.size) (X ++ sNums S) ∧ Below base w w' := by
  obtain ⟨i0, hi, hz0, hz1, hz2⟩ := info_parts Try.info5
  obtain ⟨v', w', hr, h2, h3, _⟩ := Lib.run_append_own_string (P := Try.prog) w base 24 9 ty 5 i0 Try.underlying24 Try.underlying9 hi hz0 hz1 hz2 v n _ hown S (by unfold maxLen; omega) hbd hbase
  exact ⟨v', w', hr, own_text h2, (Below.refl _ _).grown h3 hbase hown.block⟩

theorem wpList_append_text {ops : Array Oper} {rest : List Oper} {o : Oper} {a : Act} {w : World} {Q : Exit → Act → World → Prop} (hgd : o.guard = none) (s x : Operand)
    (ho : o.op = .call { callee := .builtin .append, args := #[s, x], argTypes := #[24, 9] })
    {base : Nat} {v : Value} {n : Nat} {X : List Int} (hs : a.eval s = v) (hown : OwnB w base v n X) {S : ByteArray} (hx : a.eval x = .string S) (hbd : n + S.size ≤ 140737488355328) (hbase : base ≤ w.heap.size)
    (h : ∀ v' w', OwnB w' base v' (n + S.size) (X ++ sNums S) → Below base w w' → wpList Try.prog ops Q rest (a.put o.dst v') w') : wpList Try.prog ops Q (o :: rest) a w := by
  refine wpList_plain hgd fun K hK => ?_
  obtain ⟨v', w', hr, h2, h3⟩ := append_text_run hown S hbd hbase o.type
  unfold Oper.wp
  simp [execOp, ho, resolve, invoke, builtin, hs, hx, hr, Result.andThen]
  exact hK _ _ (h v' w' h2 h3)

set_option maxHeartbeats 400000 in
theorem rkey_none (a : Option Addr) (cap : Nat) (w : World) : Calls Try.prog 11 #[.slice a 0 cap] w fun e w' => e = .returned (.tuple #[.slice none 0 0, .int .i64 1]) ∧ w' = w := by
  go_enter Try.func11, Try.ntmps11
  go_wp2_with fail
  go_ret2
  exact ⟨rfl, rfl⟩

set_option maxHeartbeats 400000 in
theorem rkey_one {w : World} {a : Option Addr} {cap : Nat} {ss : List ByteArray} (h : View 1 VS w a 1 cap ss) {xs : List (List Int)} (hss : ss = xs.map strOfNums) (hb : ∀ p ∈ xs, Bs p) (hx : ∀ p ∈ xs, p.length ≤ 140737488355328) {K : List Int} (hK : K = keyB xs) :
    Calls Try.prog 11 #[.slice a 1 cap] w fun e w' => ∃ v, e = .returned (.tuple #[v, .int .i64 0]) ∧ Hid (KeyV w' v K) ∧ Below w.heap.size w w' := by
  obtain ⟨b, off, rfl, hbw, hc⟩ := h.str (show 0 < 1 by omega)
  have hxl : xs.length = 1 := by have := h.1; rw [hss, List.length_map] at this; exact this
  obtain ⟨X, rfl⟩ := List.length_eq_one_iff.1 hxl
  have hk : K = X := by rw [hK, keyB, if_pos hxl]; rfl
  obtain ⟨S, hS⟩ : ∃ S, S = strOfNums X := ⟨_, rfl⟩
  have hs0 : ss.getD 0 default = S := by rw [hss, hS]; rfl
  rw [hs0] at hc
  have hc0 : w.cell? ⟨b, off, none⟩ = some (.string S) := hc
  have HSK : Hid (sNums S = K) := by show _ = _; rw [hS, hk]; exact sNums_strOfNums (hb X (by simp))
  have HSZ : Hid (S.size ≤ maxLen) := by show _ ≤ _; rw [hS, str_size]; have := hx X (by simp); unfold maxLen; omega
  clear h hss hb hx hK hc hxl hk hS hs0
  go_enter Try.func11, Try.ntmps11
  go_wp2_with (refine wpList_conv_key rfl (.tmp 14) rfl rfl HSZ.out ?_)
  intro v w1 hv hB
  rw [HSK.out] at hv
  have HV : Hid (KeyV w1 v K) := hv
  clear hv
  go_wp2_with fail
  go_ret2
  exact ⟨v, rfl, HV, hB⟩

theorem putL_two (l : Nat) (h : l ≤ 65535) : putL (l : Int) 2 = [(l : Int) / 256, (l : Int) % 256] := by
  simp [putL, byteAt, List.range_succ]
  omega

/-- Two bytes that were laid anew. -/
theorem isB_two (w : World) (x y : Int) (h0 : 0 ≤ x ∧ x ≤ 255) (h1 : 0 ≤ y ∧ y ≤ 255) : IsB (w.alloc (.cells #[.int .u8 x, .int .u8 y] 5)) (some ⟨w.heap.size, 0, none⟩) 2 2 [x, y] := by
  refine ⟨rfl, Nat.le_refl _, by unfold maxLen; omega, fun h => by (cases h), fun _ => ⟨_, _, rfl, rfl, Nat.le_refl _, by unfold maxLen; omega, fun _ => by simp, fun i hi => ?_, fun j => ?_⟩⟩
  · rcases (show i = 0 ∨ i = 1 by omega) with rfl | rfl <;> simp [go_sem]
  · match j with
    | 0 => exact h0
    | 1 => exact h1
    | j + 2 => simp

set_option maxHeartbeats 1000000 in
theorem rkey_many {w : World} {a : Option Addr} {len cap : Nat} {ss : List ByteArray} (h : View 1 VS w a len cap ss) (h2 : 2 ≤ len) (hl : len ≤ 100000) {xs : List (List Int)} (hss : ss = xs.map strOfNums) (hb : ∀ p ∈ xs, Bs p) (hx : ∀ p ∈ xs, p.length ≤ 65535) {K : List Int} (hK : K = keyB xs) :
    Calls Try.prog 11 #[.slice a len cap] w fun e w' => ∃ v, e = .returned (.tuple #[v, .int .i64 0]) ∧ Hid (OwnB w' w.heap.size v K.length K) ∧ Below w.heap.size w w' := by
  have hxl : xs.length = len := by have := h.1; rw [hss, List.length_map] at this; exact this
  have HX : Hid (∀ k, k < len → Bs (xs.getD k default) ∧ (xs.getD k default).length ≤ 65535 ∧ ss.getD k default = strOfNums (xs.getD k default)) := fun k hk => by
    have hkx : k < xs.length := by omega
    rw [List.getD_eq_getElem?_getD, List.getD_eq_getElem?_getD, hss, List.getElem?_map, List.getElem?_eq_getElem hkx]
    exact ⟨hb _ (List.getElem_mem _), hx _ (List.getElem_mem _), rfl⟩
  have HLX : Hid (xs.length = len) := hxl
  have HK : Hid (K = keyL xs) := by show _ = _; rw [hK, keyB, if_neg (by omega)]
  have H : Hid (View 1 VS w a len cap ss) := h
  have t0 : ((len : Int) == 0) = false := by simp; omega
  have t1 : ((len : Int) == 1) = false := by simp; omega
  have hcp : len ≤ cap := h.2.1
  have hcm : cap ≤ 9223372036854775807 := h.2.2.1
  clear h hx hK hss hb hxl
  go_enter Try.func11, Try.ntmps11
  go_wp2_with fail
  go_loopw [4, 5] (fun v i wr => ∃ k n : Nat, k ≤ len ∧ i = .int .i64 k ∧ n ≤ k * 65538 ∧ Hid (OwnB wr w.heap.size v n (keyL (xs.take k))) ∧ Below w.heap.size w wr) (fun _ i _ => len - (intOf i).toNat)
  case atStart => exact ⟨0, 0, by omega, rfl, by omega, World.ownsRow_nil _ _ _ _, Below.refl _ _⟩
  case round =>
    obtain ⟨k, n, hk, rfl, hn, HO, hB⟩ := hrel
    by_cases hlt : k < len
    · obtain ⟨b, off, ha, hbw, hc0⟩ := H.out.str hlt
      subst ha
      have hc : wr.cell? ⟨b, off + k, none⟩ = _ := (hB.cell (p := ⟨b, off + k, none⟩) hbw).trans hc0
      clear hc0
      obtain ⟨hbs', hl5, hS⟩ := HX.out k hlt
      obtain ⟨X, hX⟩ : ∃ X, X = xs.getD k default := ⟨_, rfl⟩
      rw [← hX] at hbs' hl5 hS
      obtain ⟨S, hSS⟩ : ∃ S, S = strOfNums X := ⟨_, rfl⟩
      rw [hS, ← hSS] at hc
      obtain ⟨l, hll⟩ : ∃ l, l = X.length := ⟨_, rfl⟩
      have hsz : S.size = l := by rw [hSS, str_size, hll]
      have HN : Hid (keyL (xs.take (k + 1)) = keyL (xs.take k) ++ ([(l : Int) / 256, (l : Int) % 256] ++ (sNums S ++ [0]))) := by
        show _ = _
        rw [keyL_take xs k (by rw [HLX.out]; exact hlt), ← hX, hSS, sNums_strOfNums hbs', ← putL_two l (by omega), hll]
        rfl
      rw [← hll] at hl5
      have hd : decide ((65535 : Int) < l) = false := by simp; omega
      have hbs := hB.size
      obtain ⟨Q, hQ⟩ : ∃ Q, Q = keyL (xs.take k) := ⟨_, rfl⟩
      rw [← hQ] at HO HN
      have hc' : wr.drew.cell? ⟨b, off + k, none⟩ = some (.string S) := hc
      have hq6 : IntKind.i64.wrap ((l : Int) / 256) = (l : Int) / 256 := by rw [IntKind.wrap_i64]; omega
      have hr6 : (l : Int).tmod 256 = (l : Int) % 256 := by rw [Int.tmod_eq_emod_of_nonneg (by omega)]
      have hq8 : IntKind.u8.wrap ((l : Int) / 256) = (l : Int) / 256 := by rw [IntKind.wrap_u8]; omega
      have hr8 : IntKind.u8.wrap ((l : Int) % 256) = (l : Int) % 256 := by rw [IntKind.wrap_u8]; omega
      clear hX hQ hSS hll hS hbs'
      go_wp2_with fail
      have HO2 : Hid (OwnB (wr.drew.alloc (.cells #[.int .u8 ((l : Int) / 256), .int .u8 ((l : Int) % 256)] 5)) w.heap.size u4 n Q) := HO.out.old ((Below.refl _ _).drew.alloc (Nat.le_refl _) _)
      have HB2 : Hid _ := isB_two wr.drew ((l : Int) / 256) ((l : Int) % 256) (by omega) (by omega)
      have HM : Hid (n + 2 ≤ 140737488355328) := (by omega : n + 2 ≤ 140737488355328)
      have HSZ : Hid (w.heap.size ≤ (wr.drew.alloc (.cells #[.int .u8 ((l : Int) / 256), .int .u8 ((l : Int) % 256)] 5)).heap.size) := by
        show _ ≤ _
        simp; omega
      have hB1 : Below w.heap.size w (wr.drew.alloc (.cells #[.int .u8 ((l : Int) / 256), .int .u8 ((l : Int) % 256)] 5)) := hB.drew.alloc (by simp; omega) _
      have HB1 : Hid _ := hB1
      clear hB1
      go_region_held3 (fun W => W.cell? ⟨b, off + k, none⟩ = some (.string S)) (first | assumption | go_keep) (first
        | (refine step_append_bytes rfl (.tmp 28) (.tmp 43) rfl (by rfl) HO2.out (by rfl) HB2.out HM.out HSZ.out ?_; intro v2 w2 ho2 hB2; have hc2 := hB2.cell (p := ⟨b, off + k, none⟩) hbw; have hc3 : w2.cell? ⟨b, off + k, none⟩ = some (.string S) := hc2.trans (by simp [World.cell?_alloc_some, hc]); have HO3 : Hid (OwnB w2 w.heap.size v2 (n + 2) (Q ++ [(l : Int) / 256, (l : Int) % 256])) := ho2; have hB02 := HB1.out.trans hB2; clear ho2 hB2 hc2))
      have hbs2 := hB02.size
      clear HO HO2 HB2 HB1 hc' hc
      go_wp2_with (refine wpList_append_text rfl (.tmp 45) (.tmp 49) rfl rfl HO3.out rfl (by omega) (by omega) ?_)
      intro v3 w3 ho3 hB3
      have ho3' : OwnB w3 w.heap.size v3 (n + 2 + l) (Q ++ ([(l : Int) / 256, (l : Int) % 256] ++ sNums S)) := ho3
      have HO4 : Hid (OwnB (w3.alloc (.cells #[.int .u8 0] 5)) w.heap.size v3 (n + 2 + l) (Q ++ ([(l : Int) / 256, (l : Int) % 256] ++ sNums S))) := ho3'.old (below_one _ _)
      have HZ : Hid _ := isB_one w3 0 (by omega) (by omega)
      have hB03 : Below w.heap.size w w3 := hB02.trans hB3
      have hbs3 := hB03.size
      clear ho3 ho3' HO3
      go_wp2_with (at_builtin; refine wpList_append_bytes rfl (.tmp 51) (.tmp 52) rfl rfl HO4.out rfl HZ.out (by omega) ?c3 ?_)
      case c3 => simp; omega
      intro v4 w4 ho4 hB4
      have HO5 : Hid (OwnB w4 w.heap.size v4 (n + 2 + l + 1) (keyL (xs.take (k + 1)))) := by
        show OwnB _ _ _ _ _
        rw [HN.out]
        exact ho4
      have hB04 : Below w.heap.size w w4 := (hB03.alloc hbs3 _).trans hB4
      clear ho4 HO4
      go_wp2_with fail
      go_roundw
      case rel => exact ⟨k + 1, n + 2 + l + 1, by omega, by go_num, by omega, HO5, hB04⟩
      case measure => simp [intOf]; omega
    · have hki : ¬ (k : Int) < len := by omega
      obtain rfl : k = len := by omega
      have HE : Hid (OwnB wr w.heap.size u4 K.length K) := by
        have := HO.out
        rw [List.take_of_length_le (by rw [HLX.out]; exact Nat.le_refl _), ← HK.out] at this
        have hl := this.len
        rw [← hl] at this
        exact this
      clear HO
      go_wp2_with fail
      go_ret2
      exact ⟨_, rfl, HE, hB⟩
end Go.Proofs.Ytfkhcgkobffpiaa
