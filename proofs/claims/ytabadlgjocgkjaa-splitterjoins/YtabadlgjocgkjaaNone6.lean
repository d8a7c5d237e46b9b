/-
  SplitterNone, walked.
-/
import Derived.Test.YtabadlgjocgkjaaAwake
namespace Go.Proofs.Ytabadlgjocgkjaa
open Go.RowKit
set_option linter.unusedVariables false
set_option linter.unusedSimpArgs false

theorem chk_res {o l : Int} (ho : opRes o = true) (h1 : l ≤ 1048576) : chk 132 0 o l = 0 := by
  unfold chk
  rw [if_neg (by omega), if_neg (by decide), if_neg (by unfold opB; rw [if_pos rfl, ho]; decide), if_neg (by omega)]

theorem chk_req {o l : Int} (ho : opReq o = true) (h1 : l ≤ 1048576) : chk 4 0 o l = 0 := by
  unfold chk
  rw [if_neg (by omega), if_neg (by decide), if_neg (by unfold opB; rw [if_neg (by decide), ho]; decide), if_neg (by omega)]

/-- splitter.Join of a frame that may be: a row of its own. -/
theorem join_row (v f s o l : Int) (a : Option Addr) (n c : Nat) (X : List Int) (w : World) (hI : IsB w a n c X) (ok : HOk v f s o l) (hn : n ≤ 1000000) (h : l = n) (hc : chk v f o l = 0) :
    Calls Try.prog 17 #[frV v f s o l a n c] w fun e w' => ∃ g cp, e = .returned (.tuple #[.slice (some ⟨g, 0, none⟩) (9 + n) cp, .int .i64 0]) ∧ w.heap.size ≤ g ∧ g < w'.heap.size ∧ OwnB w' w.heap.size (.slice (some ⟨g, 0, none⟩) (9 + n) cp) (9 + n) (hdB v f s o l ++ X) ∧ BRow w' g 0 (9 + n) cp (hdB v f s o l ++ X) ∧ Below w.heap.size w w' := by
  refine (join_ok v f s o l a n c X w hI ok hn h hc).mono ?_
  rintro e w' ⟨val, rfl, ho, hB⟩
  obtain ⟨g, cp, rfl, h1, h2, h3⟩ := ho.row (by omega) (range_append (hdB_range ok) hI.range)
  exact ⟨g, cp, rfl, h1, h2, ho, h3, hB⟩

theorem own_first_at {w : World} {F : Nat → Prop} {b off n cap : Nat} {x : Fr} {fs : List Fr} (h : Own 44 6 VFr w F (.slice (some ⟨b, off, none⟩) n cap) (x :: fs)) : ∃ a l cp, b < w.heap.size ∧ w.cell? ⟨b, off + 5, none⟩ = some (.slice a l cp) ∧ IsB w a l cp x.b ∧ l = x.b.length := by
  obtain ⟨b', off', cap', a, l, cp, he, _, _, hb, hc, hI, hl, _⟩ := own_first h
  simp only [Value.slice.injEq, Option.some.injEq, Addr.mk.injEq, and_true] at he
  obtain ⟨⟨rfl, rfl⟩, rfl, rfl⟩ := he
  exact ⟨a, l, cp, hb, hc, hI, hl⟩

theorem own_cells {w : World} {base g n cp : Nat} {X : List Int} (h : OwnB w base (.slice (some ⟨g, 0, none⟩) n cp) n X) : ∃ cur : Array Value, w.heap[g]? = some (.cells cur 5 (0, 0)) ∧ n ≤ cur.size := by
  rcases h.2 with ⟨h, _⟩ | ⟨g', cap, cur, he, _, hh, hn, _, hs, _⟩
  · cases h
  · simp only [Value.slice.injEq, Option.some.injEq, Addr.mk.injEq, and_true, true_and] at he
    obtain ⟨rfl, rfl⟩ := he
    exact ⟨cur, hh, by omega⟩

theorem cells_set {w : World} {g k n : Nat} (u : Value) (h : ∃ cur : Array Value, w.heap[g]? = some (.cells cur 5 (0, 0)) ∧ n ≤ cur.size) : ∃ cur : Array Value, (w.setCell ⟨g, k, none⟩ u).heap[g]? = some (.cells cur 5 (0, 0)) ∧ n ≤ cur.size := by
  obtain ⟨cur, hh, hn⟩ := h
  exact ⟨cur.setIfInBounds k u, by simp [World.setCell, Array.getElem?_modify, hh], by simpa using hn⟩

theorem none_spl : spl 132 ([] ++ [0, 0, 0, 0, 0, 0, 0, 0, 0]) = ([], [], 20) := by kernel_rfl

theorem hok_lit (v f s o : Int) (n : Nat) (hn : n ≤ 1000000) (h1 : 0 ≤ v ∧ v ≤ 255) (h2 : 0 ≤ f ∧ f ≤ 255) (h3 : -32768 ≤ s ∧ s ≤ 32767) (h4 : 0 ≤ o ∧ o ≤ 255) : HOk v f s o n :=
  ⟨h1.1, h1.2, h2.1, h2.2, h3.1, h3.2, h4.1, h4.2, by omega, by omega⟩

set_option maxHeartbeats 400000 in
theorem none_pass (a : Option Addr) (len cap : Nat) (c : Int) (w : World) (h : len = 0 ∨ 500 < len) :
    Calls Try.prog 6 #[.slice a len cap, .int .u8 c] w fun e w' => e = .returned (.bool true) ∧ Below w.heap.size w w' := by
  rcases h with h | h
  · subst h
    go_enter Try.func6, Try.ntmps6
    go_wp2_with fail
    refine (awake_any _).mono ?_
    rintro e w0 ⟨rfl, hB0⟩
    go_wp2_with fail
    go_ret
    exact ⟨rfl, hB0⟩
  · go_enter Try.func6, Try.ntmps6
    go_wp2_with fail
    refine (awake_any _).mono ?_
    rintro e w0 ⟨rfl, hB0⟩
    go_wp2_with fail
    go_ret
    exact ⟨rfl, hB0⟩

set_option maxHeartbeats 1000000 in
theorem none_walk (a : Option Addr) (len cap : Nat) (c : Int) (X : List Int) (w : World) (hI : IsB w a len cap X) (h1 : 1 ≤ len) (h2 : len ≤ 500) :
    Calls Try.prog 6 #[.slice a len cap, .int .u8 c] w fun e w' => e = .returned (.bool true) ∧ Below w.heap.size w w' := by
  have HI : Hid (IsB w a len cap X) := hI
  clear hI
  have hl5 : ¬ (500 : Int) < len := by omega
  have hl0 : ((len : Int) == 0) = false := by simp; omega
  go_enter Try.func6, Try.ntmps6
  go_wp2_with fail
  refine (awake_any _).mono ?_
  rintro e w0 ⟨rfl, hB0⟩
  have HB0 : Hid (Below w.heap.size w w0) := hB0
  have HI0 : Hid (IsB w0 a len cap X) := HI.out.old hB0
  clear hB0
  go_wp2_with (go_at_call 13; refine (add_nil _ _).mono ?_; rintro e w' ⟨rfl, rfl⟩)
  have hok := hok_lit 132 0 0 8 len (by omega) (by omega) (by omega) (by omega) (by omega)
  have hck : chk 132 0 8 (len : Int) = 0 := chk_res rfl (by omega)
  have HOK : Hid (FOk 132 ((132, 0, 0, 8, (len : Int), X) : Fr)) := ⟨hok, hck, by rw [show Fr.l ((132, 0, 0, 8, (len : Int), X) : Fr) = (len : Int) from rfl]; rw [← HI0.out.1]; rfl, rfl⟩
  refine (join_row 132 0 0 8 (len : Int) a len cap X _ HI0.out hok (by omega) rfl hck).mono ?_
  rintro e w1 ⟨g, cp, rfl, hg1, hg2, ho1, hb1, hB1⟩
  clear hok hck
  have hz0 := HB0.out.size
  have HB1 : Hid (Below w.heap.size w w1) := HB0.out.trans (hB1.mono hz0)
  have HI1 : Hid (IsB w1 a len cap X) := HI0.out.old hB1
  have HO1 : Hid (OwnB w1 0 (.slice (some ⟨g, 0, none⟩) (9 + len) cp) (9 + len) (jB ((132, 0, 0, 8, (len : Int), X) : Fr))) := ho1.mono (Nat.zero_le _)
  have HR1 : Hid (IsB w1 (some ⟨g, 0, none⟩) (9 + len) cp (jB ((132, 0, 0, 8, (len : Int), X) : Fr))) := hb1.isB
  have hcp1 : 9 + len ≤ cp := hb1.le
  have hcp2 : cp ≤ 9223372036854775807 := hb1.cap_le
  have hg0 : w.heap.size ≤ g := by omega
  clear ho1 hb1 hB1 HI0 HB0
  go_wp2_with fail
  refine (new_any 132 _).mono ?_
  rintro e w2 ⟨rfl, sp2, hB2, hz2⟩
  have S2 : Hid (Spl w2 w1.heap.size 132 (.slice none 0 0) [] 0) := sp2
  have HB2 : Hid (Below w1.heap.size w1 w2) := hB2
  have hz2' : w1.heap.size < w2.heap.size := by omega
  obtain ⟨s, hs⟩ : ∃ s, s = w1.heap.size := ⟨_, rfl⟩
  rw [← hs] at S2
  rw [← hs]
  have hsg : g < s := by omega
  have hs2 : s < w2.heap.size := by omega
  have HS : Hid (s = w1.heap.size) := hs
  clear sp2 hB2 hz2 hs
  have HSP : Hid (spl 132 (jB ((132, 0, 0, 8, (len : Int), X) : Fr)) = ([((132, 0, 0, 8, (len : Int), X) : Fr)], [], 0)) := by
    have := spl_join HOK.out []
    rw [List.append_nil] at this
    exact this
  go_wp2_with fail
  refine (add_any S2.out (HR1.out.old HB2.out) (by simp; omega) rfl HSP.out).mono ?_
  rintro e w3 ⟨fv, kv, rfl, sp3, ho3, hK3, hb3⟩
  obtain ⟨b3, off3, cap3, a3, l3, cp3, rfl, hcap, hcm, hbz, hc5, hI3, hl3, _⟩ := own_first ho3
  have HO3 : Hid (Own 44 6 VFr w3 (fun k => w2.heap.size ≤ k ∧ k ≠ s ∧ kv.ownBlock ≠ some k) (.slice (some ⟨b3, off3, none⟩) 1 cap3) [((132, 0, 0, 8, (len : Int), X) : Fr)]) := ho3
  have S3 : Hid (Spl w3 s 132 kv [] 0) := sp3
  have HKV : Hid (∀ k, kv.ownBlock = some k → w2.heap.size ≤ k) := fun k e => by rcases hb3 k e with h | h; simp [Value.ownBlock] at h; exact h
  have hK3' : Kept (fun k => k = s) w2 w3 := hK3.wide (fun k _ e => by rcases e with e | e; exact e; simp [Value.ownBlock] at e)
  have HB3 : Hid (Below w1.heap.size w1 w3) := HB2.out.trans (hK3'.below (by omega) (fun k _ e => by rw [← HS.out]; omega))
  have HC3 : Hid (∃ cur : Array Value, w3.heap[g]? = some (.cells cur 5 (0, 0)) ∧ 9 + len ≤ cur.size) := by
    obtain ⟨cur, hh, hn⟩ := own_cells HO1.out
    exact ⟨cur, by rw [HB3.out.block g (by rw [← HS.out]; exact hsg)]; exact hh, hn⟩
  unfold maxLen at hcm
  have hz3 : w2.heap.size ≤ w3.heap.size := hK3.size
  clear sp3 ho3 hK3 hb3 hc5 hI3 hl3 hK3' HO1 HR1 HOK HSP S2
  go_wp2_with (go_at_call 14; refine (left_nil _).mono ?_; rintro e w' ⟨rfl, rfl⟩)
  go_loopw [14] (fun i wr => ∃ k : Nat, k ≤ 9 + len ∧ i = .int .i64 k ∧ Hid (Kept (fun k => k = g) w' wr ∧ ∃ cur : Array Value, wr.heap[g]? = some (.cells cur 5 (0, 0)) ∧ 9 + len ≤ cur.size)) (fun i _ => 9 + len - (intOf i).toNat)
  case atStart => exact ⟨0, by omega, rfl, Kept.refl _ _, HC3.out⟩
  case round =>
    obtain ⟨k, hk, rfl, HR⟩ := hrel
    by_cases hlt : k < 9 + len
    · obtain ⟨cur, hh, hn⟩ := HR.out.2
      have hc : wr.cell? ⟨g, k, none⟩ = some (cur[k]'(by omega)) := by simp [World.cell?, hh, show k < cur.size from by omega]
      have hf : wr.frozen? ⟨g, k, none⟩ = false := by simp [World.frozen?, hh]
      have hki : (k : Int) < 9 + len := by omega
      clear hh
      go_wp2_with fail
      go_roundw
      case rel => exact ⟨k + 1, by omega, by go_num, HR.out.1.setCell (p := ⟨g, k, none⟩) (fun _ => rfl) _, cells_set _ HR.out.2⟩
      case measure => simp [intOf]; omega
    · have hki : ¬ (k : Int) < 9 + len := by omega
      have hKr := HR.out.1
      have S4 : Hid (Spl wr s 132 kv [] 0) := S3.out.keep hKr (by show ¬ s = g; omega) (fun k e he => by have := HKV.out k e; omega)
      have HO4 : Hid (Own 44 6 VFr wr (fun k => w2.heap.size ≤ k ∧ k ≠ s ∧ kv.ownBlock ≠ some k) (.slice (some ⟨b3, off3, none⟩) 1 cap3) [((132, 0, 0, 8, (len : Int), X) : Fr)]) := HO3.out.kept stays_fr hKr (fun k _ h e => by omega)
      have HBR : Hid (Below w.heap.size w wr) := (HB1.out.trans (HB3.out.mono (by have := HB1.out.size; omega))).trans (hKr.below (by have := HB1.out.size; omega) (fun k _ e => by omega))
      have hzr : w2.heap.size ≤ wr.heap.size := by have := hKr.size; omega
      have S5 : Hid (Spl (wr.alloc (.cells #[.int .u8 0, .int .u8 0, .int .u8 0, .int .u8 0, .int .u8 0, .int .u8 0, .int .u8 0, .int .u8 0, .int .u8 0] 5)) s 132 kv [] 0) := S4.out.old (below_one _ _)
      have hswr : s < wr.heap.size := by omega
      clear hKr
      go_wp2_with fail
      refine (add_any S5.out (isB_lit wr [0, 0, 0, 0, 0, 0, 0, 0, 0] (bs_of (by decide)) (by simp) _ rfl 9 rfl) (by simp) rfl none_spl).mono ?_
      rintro e w5 ⟨fv5, kv5, rfl, sp5, ho5, hK5, hb5⟩
      have S6 : Hid (Spl w5 s 132 kv5 [] 20) := sp5
      have hK5' : Kept (fun k => k = s ∨ kv.ownBlock = some k) wr w5 := (kept_of (S := fun k => k = s ∨ kv.ownBlock = some k) (below_one _ _)).trans hK5 (fun i _ e => e)
      have HO6 : Hid (Own 44 6 VFr w5 (fun k => w2.heap.size ≤ k ∧ k ≠ s ∧ kv.ownBlock ≠ some k) (.slice (some ⟨b3, off3, none⟩) 1 cap3) [((132, 0, 0, 8, (len : Int), X) : Fr)]) := HO4.out.kept stays_fr hK5' (fun k _ h e => by rcases e with e | e; exact h.2.1 e; exact h.2.2 e)
      have hB5 : Below w1.heap.size wr w5 := hK5'.below (by omega) (fun k _ e => by rcases e with e | e; (have := HS.out; omega); (have := HKV.out k e; omega))
      have HB5 : Hid (Below w.heap.size w w5) := HBR.out.trans (hB5.mono (by have := HB1.out.size; omega))
      have HI5 : Hid (IsB w5 a len cap X) := HI.out.old HB5.out
      have hs5 : s < w5.heap.size := sp5.lt
      clear sp5 ho5 hK5 hb5 hK5' hB5 S4 HO4 S5 HO3 S3 HC3
      go_wp2_with fail
      refine (add_err S6.out (by decide) _).mono ?_
      rintro e w6 ⟨rfl, hB6⟩
      have S7 : Hid (Spl w6 s 132 kv5 [] 20) := S6.out.old hB6
      obtain ⟨a7, l7, cp7, hbz7, hc7, hI7, hl7⟩ := own_first_at (HO6.out.old stays_fr hB6)
      have HI7 : Hid (IsB w6 a7 l7 cp7 X) := hI7
      have HI6 : Hid (IsB w6 a len cap X) := HI5.out.old hB6
      have HB6 : Hid (Below w.heap.size w w6) := HB5.out.trans (hB6.mono HB5.out.size)
      have q1 : ∀ n, (convert 26 9 (.slice a len cap)).run Try.prog (w6.drewN n) = .ok (.string (strOfNums X)) (w6.drewN n) := fun n => (HI6.out.old (below_drewN (Below.refl _ _) n)).conv
      have q2 : ∀ n, (convert 26 9 (.slice a7 l7 cp7)).run Try.prog (w6.drewN n) = .ok (.string (strOfNums X)) (w6.drewN n) := fun n => (HI7.out.old (below_drewN (Below.refl _ _) n)).conv
      have SQ : Hid (∀ n, Spl (w6.drewN n) s 132 kv5 [] 20) := fun n => S7.out.old (below_drewN (Below.refl _ _) n)
      clear hI7 hl7 hB6 HO6 S6
      go_wp2_with fail
      go_quiet ((go_at_call 14; exact Calls.quiet_of_same (left_any (SQ.out _))))
      go_wp2_with fail
      go_ret
      exact ⟨rfl, below_drewN HB6.out _⟩
theorem none_any (a : Option Addr) (len cap : Nat) (c : Int) (X : List Int) (w : World) (hI : IsRow .u8 w a len cap X) :
    Calls Try.prog 6 #[.slice a len cap, .int .u8 c] w fun e w' => e = .returned (.bool true) ∧ Below w.heap.size w w' := by
  by_cases h : len = 0 ∨ 500 < len
  · exact none_pass a len cap c w h
  · exact none_walk a len cap c _ w hI.isB (by omega) (by omega)
end Go.Proofs.Ytabadlgjocgkjaa
