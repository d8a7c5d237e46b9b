/-
  The contract of the document's own Get of lists and maps.
-/
import Derived.Test.YtkcnmmlakimonaaRefAt
import Derived.Test.YtkcnmmlakimonaaConv
namespace Go.Proofs.Ytkcnmmlakimonaa
open Go.RowKit
set_option linter.unusedVariables false
set_option linter.unusedSimpArgs false

def Res.map {α β : Type} (f : α → β) (X : Res α) : Res β := ⟨f X.val, X.done, X.err⟩

def item0 (zs : List Int) : Res It := (textR zs).map keyIt
def item1 (zs : List Int) : Res It := (keyR textR zs).map pairIt
def item2 (zs : List Int) : Res It := (keyR (listR textR) zs).map multiIt
def item3 (zs : List Int) : Res It := (keyR valueR zs).map entryIt

theorem goR_map {α β : Type} (f : α → β) (p : List Int → Res α) (zs : List Int) : ∀ (n d : Nat) (acc : List α), goR (fun z => (p z).map f) zs n d (acc.map f) = (goR p zs n d acc).map (List.map f) := by
  intro n
  induction n with
  | zero => intro d acc; rfl
  | succ n ih =>
    intro d acc
    rw [goR, goR]
    by_cases h : (p (zs.drop d)).err = 0
    · rw [if_pos h, if_pos (show ((p (zs.drop d)).map f).err = 0 from h)]
      have := ih (d + (p (zs.drop d)).done) (acc ++ [(p (zs.drop d)).val])
      rw [List.map_append] at this
      exact this
    · rw [if_neg h, if_neg (show ¬ ((p (zs.drop d)).map f).err = 0 from h)]
      rfl

theorem listR_map {α β : Type} (f : α → β) (p : List Int → Res α) (zs : List Int) : listR (fun z => (p z).map f) zs = (listR p zs).map (List.map f) := by
  unfold listR
  split
  · rfl
  · exact goR_map f p zs _ _ []

theorem textR_done (zs : List Int) (h : (textR zs).err = 0) : (textR zs).done ≤ zs.length := by
  unfold textR at h ⊢
  simp only at h ⊢
  unfold textA at h ⊢
  split
  · exact Nat.zero_le _
  · split
    · exact Nat.zero_le _
    · simp only
      omega

theorem alloc_two (w : World) (o o' : Obj) : ((w.alloc o).alloc o').heap[w.heap.size + 1]? = some o' := by
  have := heap_alloc_new (w.alloc o) o'
  rw [show (w.alloc o).heap.size = w.heap.size + 1 from by simp] at this
  exact this

theorem place_ok {α : Type} {d : Nat} {X : Res α} (h : X.err = 0) : place d X = ((d + X.done : Nat) : Int) := by rw [place, if_pos h]
theorem place_bad {α : Type} {d : Nat} {X : Res α} (h : X.err ≠ 0) : place d X = 0 := by rw [place, if_neg h]

set_option maxRecDepth 100000 in
set_option maxHeartbeats 2000000 in
theorem rget0_yes {w : World} {b off len cap : Nat} {zs : List Int} (h : BRow w b off len cap zs) (d : Nat) (hl : d + 2 ≤ len) (p : Int) (hp : p = d) {Y : Res (List It)} (hY : Y = listR item0 (zs.drop d)) :
    Calls Try.prog 20 #[.int .i64 0, .slice (some ⟨b, off, none⟩) len cap, .int .i64 p] w fun e w' => ∃ v, e = .returned (.tuple #[v, .int .i64 (place d Y), .int .i64 Y.err]) ∧ Hid (Own 81 5 VI w' w.heap.size v Y.val) ∧ Below w.heap.size w w' := by
  subst hp
  have hz := h.len_eq
  have hlm : len ≤ 9223372036854775807 := Nat.le_trans h.le h.cap_le
  have hyl : (zs.drop d).length = len - d := by rw [List.length_drop, hz]
  have hyr := range_drop h.rng d
  obtain ⟨N, hN⟩ := Int.eq_ofNat_of_zero_le (numTo_bound (zs.drop d) hyr 2 (by omega)).1
  have hN2 := (numTo_bound (zs.drop d) hyr 2 (by omega)).2
  rw [hN] at hN2
  have hN3 : N < 65536 := by have h4 : (256 : Int) ^ 2 = 65536 := by decide
                             omega
  have HL : Hid (Y = goR item0 (zs.drop d) N 2 []) := by
    show _ = _
    rw [hY, listR, if_neg (by omega), hN, Int.toNat_natCast]
  have H : Hid (BRow w b off len cap zs) := h
  have HN : Hid (numTo (zs.drop d) 2 = N) := hN
  have HZ : Hid ((zs.drop d).length = len - d) := hyl
  clear h hN hN2 hz hY hyl hyr
  go_enter Try.func20, Try.ntmps20
  go_wp2_with fail
  refine (rget_at_yes H.out d 2 (by omega) (by omega) hl _ _ rfl rfl).mono ?_
  rintro e w1 ⟨rfl, rfl⟩
  rw [HN.out]
  go_wp2_with fail
  go_loopw [10, 12, 13] (fun t l i wr => ∃ k dd acc, k ≤ N ∧ i = .int .u64 k ∧ t = .int .i64 ((d + dd : Nat) : Int) ∧ d + dd ≤ len ∧ Hid (Own 81 5 VI wr w1.heap.size l acc) ∧ acc.length = k ∧
      Hid (goR item0 (zs.drop d) (N - k) dd acc = Y) ∧ Below w1.heap.size w1 wr) (fun _ _ i _ => N - (intOf i).toNat)
  case atStart => exact ⟨0, 2, [], by omega, rfl, by simp, hl, own_nil _ _ _ _ _, rfl, HL.out.symm, Below.refl _ _⟩
  case round =>
    obtain ⟨k, dd, acc, hk, rfl, rfl, hd, HO, hacc, HG, hB⟩ := hrel
    by_cases hlt : k < N
    · obtain ⟨X, hX⟩ : ∃ X, X = textR (zs.drop (d + dd)) := ⟨_, rfl⟩
      have HX : Hid _ := hX
      have HXI : Hid (item0 ((zs.drop d).drop dd) = X.map keyIt) := by
        show _ = _
        rw [item0, List.drop_drop, ← hX]
      have hdone : X.err = 0 → d + dd + X.done ≤ len := by
        intro he
        rw [hX] at he ⊢
        have := textR_done _ he
        rw [List.length_drop] at this
        have := HZ.out
        rw [List.length_drop] at this
        omega
      have HDN : Hid _ := hdone
      have hbs := hB.size
      clear hX hdone
      go_wp2_with fail
      refine (rgetText_at (H.out.isB.old (hB.alloc hbs _)) (d + dd) hd _ (by simp) HX.out).mono ?_
      rintro e w2 ⟨rfl, rfl⟩
      by_cases he : X.err = 0
      · rw [place_ok he, he]
        have HO2 : Hid (Own 81 5 VI ((wr.alloc (.cells (flat5 X.val ⟨#[]⟩ 0 ⟨#[]⟩).toArray 81)).alloc (.cells (flat5 X.val ⟨#[]⟩ 0 ⟨#[]⟩).toArray 81)) w1.heap.size u12 acc) := HO.out.old stays_i ((below_one wr _).alloc (by simp) _)
        have HBN : Hid (((wr.alloc (.cells (flat5 X.val ⟨#[]⟩ 0 ⟨#[]⟩).toArray 81)).alloc (.cells (flat5 X.val ⟨#[]⟩ 0 ⟨#[]⟩).toArray 81)).heap[wr.heap.size + 1]? = some (.cells (flat5 X.val ⟨#[]⟩ 0 ⟨#[]⟩).toArray 81 (0, 0))) := by
          exact alloc_two wr _ _
        have HG2 : Hid (goR item0 (zs.drop d) (N - (k + 1)) (dd + X.done) (acc ++ [keyIt X.val]) = Y) := by
          have := goR_step HG.out hlt (by rw [HXI.out]; exact he)
          rw [HXI.out] at this
          exact this
        have hdn := HDN.out he
        go_wp2_with (at_builtin; refine wpList_append_item rfl (.tmp 92) (.tmp 94) 31 rfl stays_i elem_i rfl HO2.out rfl HBN.out rfl (flat5_one _ _ _ _) (keyIt X.val) (flat5_vi _ _ _ _ _) (flat5_block _ _ _ _) ?c3 ?c4 ?c5 ?_)
        case c3 => unfold maxLen; omega
        case c4 => omega
        case c5 => simp; omega
        intro v3 w3 ho3 hB3
        have HO3 : Hid (Own 81 5 VI w3 w1.heap.size v3 (acc ++ [keyIt X.val])) := ho3
        have hB03 : Below w1.heap.size w1 w3 := ((hB.alloc hbs _).alloc (by simp; omega) _).trans hB3
        clear ho3
        go_wp2_with fail
        go_roundw
        case rel => exact ⟨k + 1, dd + X.done, acc ++ [keyIt X.val], by omega, by go_num, by go_num, by omega, HO3, by simp [hacc], HG2, hB03⟩
        case measure => simp [intOf]; omega
      · rw [place_bad he]
        have t : (X.err == 0) = false := by simpa using he
        have HE := goR_stop HG.out hlt (by rw [HXI.out]; exact he)
        rw [HXI.out] at HE
        have HHE : Hid (Y = ⟨[], 0, X.err⟩) := HE
        have he' : Hid (X.err ≠ 0) := he
        clear HE he
        have HPL : Hid (place d Y = 0) := by
          show _ = _
          rw [HHE.out]; exact place_bad he'.out
        go_wp2_with fail
        go_ret3
        exact ⟨.slice none 0 0, by rw [HPL.out, HHE.out]; rfl, by rw [HHE.out]; exact own_nil _ _ _ _ _, hB.alloc hbs _⟩
    · have HE := goR_end HG.out (by omega)
      go_wp2_with fail
      go_ret3
      exact ⟨_, by rw [HE]; rfl, by rw [HE]; exact HO, hB⟩

set_option maxRecDepth 100000 in
set_option maxHeartbeats 400000 in
theorem rget03_short (K : Int) (a : Option Addr) (len cap d : Nat) (w : World) (hd : d ≤ len) (hm : len ≤ maxLen) (hl : len < d + 2) (p : Int) (hp : p = d) :
    Calls Try.prog 20 #[.int .i64 K, .slice a len cap, .int .i64 p] w fun e w' => e = .returned (.tuple #[.slice none 0 0, .int .i64 0, .int .i64 10]) ∧ w' = w := by
  subst hp
  have HM : Hid _ := hm
  clear hm
  go_enter Try.func20, Try.ntmps20
  go_wp2_with fail
  refine (rget_at_short a len cap d 2 _ (by omega) (by omega) hd HM.out hl _ _ rfl rfl).mono ?_
  rintro e w1 ⟨rfl, rfl⟩
  go_wp2_with fail
  go_ret3
  exact ⟨rfl, rfl⟩

theorem rget0_any {w : World} {a : Option Addr} {len cap : Nat} {zs : List Int} (h : IsB w a len cap zs) (d : Nat) (hd : d ≤ len) (p : Int) (hp : p = d) {Y : Res (List It)} (hY : Y = listR item0 (zs.drop d)) :
    Calls Try.prog 20 #[.int .i64 0, .slice a len cap, .int .i64 p] w fun e w' => ∃ v, e = .returned (.tuple #[v, .int .i64 (place d Y), .int .i64 Y.err]) ∧ Hid (Own 81 5 VI w' w.heap.size v Y.val) ∧ Below w.heap.size w w' := by
  by_cases hl : len < d + 2
  · refine (rget03_short 0 a len cap d w hd (Nat.le_trans h.2.1 h.2.2.1) hl p hp).mono ?_
    rintro e w' ⟨rfl, rfl⟩
    rw [listR, if_pos (by rw [List.length_drop, h.1]; omega)] at hY
    subst hY
    exact ⟨.slice none 0 0, rfl, own_nil _ _ _ _ _, Below.refl _ _⟩
  · obtain ⟨b, off, rfl, hR⟩ := h.2.2.2.2 (by omega)
    exact rget0_yes hR d (by omega) p hp hY
end Go.Proofs.Ytkcnmmlakimonaa
