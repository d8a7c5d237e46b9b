/-
  The document's own Text.
-/
import Derived.Test.YtakaonfeegfmpaaDoorRefOwn
import Derived.Test.YtakaonfeegfmpaaDoorTextT
namespace Go.Proofs.YtakaonfeegfmpaaDoor
open Go.RowKit
set_option linter.unusedVariables false
set_option linter.unusedSimpArgs false

theorem joinT_snoc (l : List ByteArray) (x : ByteArray) (h : l ≠ []) : joinT (l ++ [x]) = (joinT l ++ ⟨#[44, 32]⟩) ++ x := by
  cases l with
  | nil => exact absurd rfl h
  | cons a r =>
    apply ByteArray.ext
    apply Array.ext'
    show (Lib.join ((a :: r ++ [x]).map (fun s : ByteArray => s.data.toList)) [44, 32]).toArray.toList = _
    rw [List.cons_append, List.map_cons, Lib.join_cons, ByteArray.data_append, ByteArray.data_append]
    show _ = (((Lib.join ((a :: r).map (fun s : ByteArray => s.data.toList)) [44, 32]).toArray ++ #[44, 32]) ++ x.data).toList
    rw [List.map_cons, Lib.join_cons]
    simp [Lib.joinTail]

theorem sum_take_le (l : List Nat) (k : Nat) : (l.take k).sum ≤ l.sum := by
  have h := congrArg List.sum (List.take_append_drop k l)
  rw [List.sum_append] at h
  omega

theorem le_sum : ∀ {l : List Nat} {a : Nat}, a ∈ l → a ≤ l.sum
  | b :: l, a, h => by
    rw [List.sum_cons]
    rcases List.mem_cons.1 h with rfl | h
    · omega
    · have := le_sum h
      omega

theorem row_size (n : Nat) (t : Ty) (k : Nat) : (joinT ((t.kids.take k).map (txt n))).size + 20 ≤ tlen (n + 1) t := by
  have h1 := kids_size (txt_size n) (t.kids.take k)
  have h2 := sum_take_le (t.kids.map (fun x => 2 + tlen n x)) k
  rw [← List.map_take] at h2
  have h3 : (joinT ((t.kids.take k).map (txt n))).size = (Lib.join (((t.kids.take k).map (txt n)).map (·.data.toList)) [44, 32]).length := by
    show (Lib.join _ _).toArray.size = _
    simp
  rw [tlen]
  omega

theorem kid_size {n : Nat} {t x : Ty} (h : x ∈ t.kids) : 2 + tlen n x + 20 ≤ tlen (n + 1) t := by
  have h1 : (2 + tlen n x) ≤ (t.kids.map (fun k => 2 + tlen n k)).sum := le_sum (List.mem_map.2 ⟨x, h, rfl⟩)
  rw [tlen]
  omega

def textW (n : Nat) (t : Ty) : ByteArray × Int := if mayB (n + 1) t = true then (txt (n + 1) t, 0) else (⟨#[]⟩, 1)

def TxtP (n : Nat) : Prop := ∀ (F : Nat → Prop) (w : World) (t : Ty) (na : Option Addr) (nl nc : Nat) (ka : Option Addr) (kl kc : Nat), TyAt n F w t na nl nc ka kl kc → tlen (n + 1) t ≤ 17592186044416 → ∀ R : ByteArray × Int, R = textW n t →
  Calls Tryd.prog 26 #[.agg #[.int .u16 t.id, .string t.space, .string t.name, .slice na nl nc, .slice ka kl kc]] w fun e w' => e = .returned (.tuple #[.string R.1, .int .i64 R.2]) ∧ Below w.heap.size w w'

set_option maxHeartbeats 4000000 in
set_option maxRecDepth 20000 in
theorem txt_step (n : Nat) (ih : ∀ m, n = m + 1 → TxtP m) : TxtP n := by
  intro F w t na nl nc ka kl kc h hbd R hR
  have hkl := h.kl_le
  have hnl := h.nl_le
  have hke := h.kl_eq
  have hne := h.nl_eq
  have hsp := h.2.1
  have hnm := h.2.2.1
  have hsz1 : t.space.size ≤ 17592186044416 := by rw [tlen] at hbd; omega
  have hsz2 : t.name.size ≤ 17592186044416 := by rw [tlen] at hbd; omega
  have H : Hid (TyAt n F w t na nl nc ka kl kc) := h
  have IH : Hid _ := ih
  have HR : Hid _ := hR
  have HBD : Hid _ := hbd
  have HKE : Hid _ := hke
  have HNE : Hid _ := hne
  have HKM : Hid (kl ≤ maxLen ∧ nl ≤ maxLen) := ⟨by omega, by omega⟩
  unfold maxLen at hkl hnl
  obtain ⟨d, hd⟩ : ∃ d, d = hasB t.id kl nl := ⟨_, rfl⟩
  have HD : Hid _ := hd
  clear h ih hR hbd hke hne hsp hnm hd
  go_enter Tryd.func26, Tryd.ntmps26
  go_wp2_with fail
  refine (own_any _ t.id t.space t.name na nl nc ka kl kc H.out.idr.1 H.out.idr.2 HKM.out.1 HKM.out.2 HD.out).mono ?_
  rintro e w1 ⟨rfl, hB1⟩
  have hB0 : Below (w.heap.size + 1) (w.alloc (.cells #[.int .u16 t.id, .string t.space, .string t.name, .slice na nl nc, .slice ka kl kc] 26)) w1 := hB1.mono (by simp)
  have hBw1 : Below w.heap.size w w1 := (below_one w _).trans (hB0.mono (by omega))
  clear hB1
  cases d with
  | false =>
    have HE : Hid (R = (⟨#[]⟩, 1)) := by
      show _ = _
      rw [HR.out, textW, mayB, HKE.out, HNE.out, ← HD.out, Bool.false_and, if_neg (by decide)]
    go_wp2_with fail
    go_ret2
    exact ⟨by rw [HE.out]; rfl, hBw1⟩
  | true =>
    have HR1 : Hid (R = if t.kids.all (mayB n) = true then (txt (n + 1) t, 0) else (⟨#[]⟩, 1)) := by
      show _ = _
      rw [HR.out, textW, mayB, HKE.out, HNE.out, ← HD.out, Bool.true_and]
    have hbx1 : w1.heap[w.heap.size]? = some (.cells #[.int .u16 t.id, .string t.space, .string t.name, .slice na nl nc, .slice ka kl kc] 26 (0, 0)) := by rw [hB0.block _ (by omega)]; exact heap_alloc_new w _
    obtain ⟨b0, b1, b2, b3, b4⟩ := cells5 hbx1
    have hs1 : w.heap.size < w1.heap.size := by have := hB0.size; simp at this; omega
    clear hbx1 hBw1
    go_wp2_with fail
    go_loopw [4, 5] (fun row i wr => ∃ (k : Nat) (S : ByteArray), k ≤ kl ∧ i = .int .i64 k ∧ row = .string S ∧ Hid (S = joinT ((t.kids.take k).map (txt n))) ∧ S.size ≤ 17592186044416 ∧ Hid (∀ x ∈ t.kids.take k, mayB n x = true) ∧ Below (w.heap.size + 1) (w.alloc (.cells #[.int .u16 t.id, .string t.space, .string t.name, .slice na nl nc, .slice ka kl kc] 26)) wr) (fun _ i _ => kl - (intOf i).toNat)
    case atStart => exact ⟨0, _, by omega, rfl, rfl, (by show _ = _; rfl), by show 0 ≤ _; omega, (by intro x hx; simp at hx), hB0⟩
    case round =>
      clear b0 b1 b2 b3 b4 hs1 hB0
      obtain ⟨k, S, hk, rfl, rfl, HS, hSz, HA, hBr⟩ := hrel
      have hbx : wr.heap[w.heap.size]? = some (.cells #[.int .u16 t.id, .string t.space, .string t.name, .slice na nl nc, .slice ka kl kc] 26 (0, 0)) := by rw [hBr.block _ (by omega)]; exact heap_alloc_new w _
      obtain ⟨c0, c1, c2, c3, c4⟩ := cells5 hbx
      have hsr : w.heap.size < wr.heap.size := by have := hBr.size; simp at this; omega
      have hBw : Below w.heap.size w wr := (below_one w _).trans (hBr.mono (by omega))
      clear hbx
      by_cases hlt : k < kl
      · obtain ⟨m, hm⟩ : ∃ m, n = m + 1 := by
          cases n with
          | zero =>
            obtain ⟨_, _, _, _, h1, h2, h3, h4, h5⟩ := H.out
            obtain ⟨b, off, _, _, _, hc⟩ := h5 (by omega)
            obtain ⟨c, _, hv⟩ := hc 0 (t.kids[0]'(by omega)) (List.getElem?_eq_getElem (by omega))
            exact hv.elim
          | succ m => exact ⟨m, rfl⟩
        have hH := H.out
        rw [hm] at hH
        obtain ⟨x, b, off, xa, xl, xc, ya, yl, yc, hx, rfl, hb, e0, e1, e2, e3, e4, hin⟩ := (hH.old hBw).kid hlt
        have hmem : x ∈ t.kids := List.mem_of_getElem? hx
        have HIN : Hid (TyAt m F wr x xa xl xc ya yl yc) := hin
        have HP : Hid (TxtP m) := IH.out m hm
        have HXB : Hid (tlen (m + 1) x ≤ 17592186044416) := by
          show _ ≤ _
          have h1 := kid_size (n := n) hmem
          rw [hm] at h1
          have h2 := HBD.out
          rw [hm] at h2
          omega
        obtain ⟨Q, hQ⟩ : ∃ Q, Q = textW m x := ⟨_, rfl⟩
        have HQ : Hid (Q = if mayB n x = true then (txt n x, 0) else (⟨#[]⟩, 1)) := by show _ = _; rw [hQ, textW, hm]
        have HQ0 : Hid _ := hQ
        have HTK : Hid (t.kids.take (k + 1) = t.kids.take k ++ [x]) := by show _ = _; rw [List.take_add_one, hx]; rfl
        have HMEM : Hid (x ∈ t.kids) := hmem
        clear hx hin hH hm hBw hQ hmem
        go_wp2_with fail
        refine (HP.out F wr x _ _ _ _ _ _ HIN.out HXB.out Q HQ0.out).mono ?_
        rintro e w3 ⟨rfl, hB3⟩
        have hB03 : Below (w.heap.size + 1) (w.alloc (.cells #[.int .u16 t.id, .string t.space, .string t.name, .slice na nl nc, .slice (some ⟨b, off, none⟩) kl kc] 26)) w3 := hBr.trans (hB3.mono (by omega))
        clear hB3 hBr e0 e1 e2 e3 e4
        by_cases hmy : mayB n x = true
        · have hQ := HQ.out
          rw [if_pos hmy] at hQ
          have HSS : Hid (t.kids.take (k + 1) = t.kids.take k ++ [x]) := HTK
          obtain ⟨X, hX⟩ : ∃ X, X = txt n x := ⟨_, rfl⟩
          have hXz : X.size ≤ 17592186044416 := by
            have h1 := txt_size n x
            have h2 := kid_size (n := n) HMEM.out
            have h3 := HBD.out
            rw [hX]
            omega
          rw [← hX] at hQ
          have HA2 : Hid (∀ y ∈ t.kids.take (k + 1), mayB n y = true) := by
            intro y hy
            rw [HTK.out, List.mem_append, List.mem_singleton] at hy
            rcases hy with hy | rfl
            · exact HA.out y hy
            · exact hmy
          subst hQ
          rcases Nat.eq_zero_or_pos k with hk0 | hk0
          · subst hk0
            have hS0 : S = ⟨#[]⟩ := HS.out
            have HS2 : Hid (S ++ X = joinT ((t.kids.take (0 + 1)).map (txt n))) := by
              show _ = _
              rw [HTK.out, hS0, hX]
              show _ = joinT [txt n x]
              rw [show joinT [txt n x] = txt n x from by show (⟨(Lib.join [(txt n x).data.toList] [44, 32]).toArray⟩ : ByteArray) = _; rw [Lib.join_one]]
              apply ByteArray.ext
              simp
            have hsz3 : (S ++ X).size ≤ 17592186044416 := by rw [HS2.out]; have := row_size n t (0 + 1); have := HBD.out; omega
            have HSZ3 : Hid _ := hsz3
            clear hS0 hX hsz3
            go_wp2_with fail
            go_roundw
            case rel => exact ⟨0 + 1, S ++ X, by omega, by go_num, rfl, HS2, HSZ3.out, HA2, hB03⟩
            case measure => simp [intOf]; omega
          · have HS2 : Hid ((S ++ ⟨#[44, 32]⟩) ++ X = joinT ((t.kids.take (k + 1)).map (txt n))) := by
              show _ = _
              rw [HTK.out, List.map_append, List.map_singleton, joinT_snoc _ _ (by
                intro e
                have h1 := congrArg List.length e
                rw [List.length_map, List.length_take, HKE.out] at h1
                simp at h1
                omega), ← HS.out, hX]
            have hsz3 : ((S ++ ⟨#[44, 32]⟩) ++ X).size ≤ 17592186044416 := by rw [HS2.out]; have := row_size n t (k + 1); have := HBD.out; omega
            have HSZ3 : Hid _ := hsz3
            clear hX hsz3
            have hkp : (0 : Int) < k := by omega
            go_wp2_with fail
            go_roundw
            case rel => exact ⟨k + 1, (S ++ ⟨#[44, 32]⟩) ++ X, by omega, by go_num, rfl, HS2, HSZ3.out, HA2, hB03⟩
            case measure => simp [intOf]; omega
        · have hQ := HQ.out
          rw [if_neg hmy] at hQ
          subst hQ
          have HE : Hid (R = (⟨#[]⟩, 1)) := by
            show _ = _
            rw [HR1.out, if_neg (fun e => hmy (List.all_eq_true.1 e x HMEM.out))]
          have hfin : Below w.heap.size w w3 := (below_one w _).trans (hB03.mono (by omega))
          clear hB03 hmy
          go_wp2_with fail
          go_ret2
          exact ⟨by rw [HE.out]; rfl, hfin⟩
      · have htk : t.kids.take k = t.kids := List.take_of_length_le (by have := HKE.out; omega)
        have HS2 : Hid (S = joinT (t.kids.map (txt n))) := by show _ = _; rw [HS.out, htk]
        have HR2 : Hid (R = (txt (n + 1) t, 0)) := by
          show _ = _
          have hall : t.kids.all (mayB n) = true := List.all_eq_true.2 (fun x hx => HA.out x (by rw [htk]; exact hx))
          rw [HR1.out, if_pos hall]
        clear hBr htk
        by_cases h0 : t.id = 0
        · have HE : Hid (R = ((⟨#[39]⟩ ++ t.name) ++ ⟨#[39]⟩, 0)) := by
            show _ = _
            rw [HR2.out, txt, if_pos h0]
          have q0 : (t.id == 0) = true := by simp [h0]
          clear h0
          go_wp2_with fail
          go_ret2
          exact ⟨by rw [HE.out]; rfl, hBw⟩
        · have q0 : (t.id == 0) = false := by simpa using h0
          by_cases h32 : t.id = 32
          · have HE : Hid (R = ((⟨#[108, 105, 115, 116, 60]⟩ ++ S) ++ ⟨#[62]⟩, 0)) := by
              show _ = _
              rw [HR2.out, txt, if_neg (by omega), if_pos h32, ← HS2.out]
            have q32 : (t.id == 32) = true := by simp [h32]
            clear h32
            go_wp2_with fail
            go_ret2
            exact ⟨by rw [HE.out]; rfl, hBw⟩
          · have q32 : (t.id == 32) = false := by simpa using h32
            by_cases h33 : t.id = 33
            · have HE : Hid (R = ((⟨#[109, 97, 112, 60]⟩ ++ S) ++ ⟨#[62]⟩, 0)) := by
                show _ = _
                rw [HR2.out, txt, if_neg (by omega), if_neg (by omega), if_neg (by omega), if_pos h33, ← HS2.out]
              have q33 : (t.id == 33) = true := by simp [h33]
              clear h33
              go_wp2_with fail
              go_ret2
              exact ⟨by rw [HE.out]; rfl, hBw⟩
            · have q33 : (t.id == 33) = false := by simpa using h33
              by_cases h34 : t.id = 34
              · have HE : Hid (R = ((⟨#[115, 101, 116, 60]⟩ ++ S) ++ ⟨#[62]⟩, 0)) := by
                  show _ = _
                  rw [HR2.out, txt, if_neg (by omega), if_neg (by omega), if_pos h34, ← HS2.out]
                have q34 : (t.id == 34) = true := by simp [h34]
                clear h34
                go_wp2_with fail
                go_ret2
                exact ⟨by rw [HE.out]; rfl, hBw⟩
              · have q34 : (t.id == 34) = false := by simpa using h34
                by_cases h48 : t.id = 48
                · have HE : Hid (R = ((t.space ++ ⟨#[46]⟩) ++ t.name, 0)) := by
                    show _ = _
                    rw [HR2.out, txt, if_neg (by omega), if_neg (by omega), if_neg (by omega), if_neg (by omega), if_pos h48]
                  have q48 : (t.id == 48) = true := by simp [h48]
                  clear h48
                  go_wp2_with fail
                  go_ret2
                  exact ⟨by rw [HE.out]; rfl, hBw⟩
                · have q48 : (t.id == 48) = false := by simpa using h48
                  by_cases h49 : t.id = 49
                  · have HE : Hid (R = ((⟨#[116, 117, 112, 108, 101, 60]⟩ ++ S) ++ ⟨#[62]⟩, 0)) := by
                      show _ = _
                      rw [HR2.out, txt, if_neg (by omega), if_neg (by omega), if_neg (by omega), if_neg (by omega), if_neg (by omega), if_pos h49, ← HS2.out]
                    have q49 : (t.id == 49) = true := by simp [h49]
                    clear h49
                    go_wp2_with fail
                    go_ret2
                    exact ⟨by rw [HE.out]; rfl, hBw⟩
                  · have q49 : (t.id == 49) = false := by simpa using h49
                    have hh := HD.out
                    rw [hasB_else h0 h32 h33 h34 h48 h49] at hh
                    have hp : plainB t.id = true := by
                      have h2 := hh.symm
                      rw [Bool.and_eq_true, Bool.and_eq_true] at h2
                      exact h2.1.1
                    have hr : 1 ≤ t.id ∧ t.id ≤ 20 := by
                      simp only [plainB, Bool.and_eq_true, decide_eq_true_eq] at hp
                      exact hp.1
                    obtain ⟨i, hi⟩ := Int.eq_ofNat_of_zero_le (show 0 ≤ t.id by omega)
                    have hi21 : i < 21 := by omega
                    have HE : Hid (R = (plainAt i, 0)) := by
                      show _ = _
                      rw [HR2.out, txt, if_neg h0, if_neg h32, if_neg h34, if_neg h33, if_neg h48, if_neg h49, hi, Int.toNat_natCast]
                    have HI : Hid _ := hi
                    clear h0 h32 h33 h34 h48 h49 hh hp hr hi
                    go_wp2_with fail
                    refine (names_any wr).mono ?_
                    rintro e w5 ⟨rfl, HC, hs5, hB5⟩
                    have hc := HC i hi21
                    have hlt5 : wr.heap.size < w5.heap.size := by omega
                    have d0 : w5.cell? ⟨w.heap.size, 0, none⟩ = some (.int .u16 (i : Int)) := by rw [hB5.cell (p := ⟨w.heap.size, 0, none⟩) hsr, c0, HI.out]
                    have hw5 : w.heap.size < w5.heap.size := by omega
                    have hBw5 : Below w.heap.size w w5 := hBw.trans (hB5.mono hBw.size)
                    clear HC hs5 hB5 hBw
                    go_wp2_with fail
                    go_ret2
                    exact ⟨by rw [HE.out]; rfl, hBw5⟩

theorem dep_bool (t : Ty) : decide ((20 : Int) < (dep 25 t : Int)) = deepB 20 t := by
  have h := dep_deep 20 25 t (by omega)
  cases hb : deepB 20 t with
  | true =>
    rw [hb] at h
    have := h.2 rfl
    exact decide_eq_true (by omega)
  | false =>
    rw [hb] at h
    have h2 : ¬ (20 < dep 25 t) := fun e => by cases h.1 e
    exact decide_eq_false (by omega)

theorem txt_any : ∀ n, TxtP n
  | 0 => txt_step 0 (fun m e => by omega)
  | n + 1 => txt_step (n + 1) (fun m e => by obtain rfl : n = m := by omega
                                             exact txt_any n)
set_option maxHeartbeats 1000000 in
theorem refText_any {F : Nat → Prop} {w : World} {t : Ty} {na : Option Addr} {nl nc : Nat} {ka : Option Addr} {kl kc : Nat} (h : TyAt 25 F w t na nl nc ka kl kc) (hbd : tlen 26 t ≤ 17592186044416) {R : ByteArray × Int} (hR : R = textT 25 t) :
    Calls Tryd.prog 15 #[.agg #[.int .u16 t.id, .string t.space, .string t.name, .slice na nl nc, .slice ka kl kc]] w fun e w' => e = .returned (.tuple #[.string R.1, .int .i64 R.2]) ∧ Below w.heap.size w w' := by
  have H : Hid (TyAt 25 F w t na nl nc ka kl kc) := h
  have HBD : Hid _ := hbd
  have HR : Hid _ := hR
  obtain ⟨D, hD⟩ : ∃ D : Int, D = dep 25 t := ⟨_, rfl⟩
  have HD : Hid _ := hD
  have HDB : Hid (decide ((20 : Int) < D) = deepB 20 t) := by show _ = _; rw [hD]; exact dep_bool t
  have hD0 : 0 ≤ D := by omega
  have hD1 : D ≤ 2000 := by have := dep_le 25 t; omega
  clear h hR hbd hD
  go_enter Tryd.func15, Tryd.ntmps15
  go_wp2_with fail
  refine (dep_any 25 (by omega) F _ t na nl nc ka kl kc (H.out.old (below_one _ _)) D HD.out).mono ?_
  rintro e w1 ⟨rfl, hB1⟩
  have hBw : Below w.heap.size w w1 := (below_one _ _).trans (hB1.mono (by simp))
  have hbx : w1.heap[w.heap.size]? = some (.cells #[.int .u16 t.id, .string t.space, .string t.name, .slice na nl nc, .slice ka kl kc] 26 (0, 0)) := by rw [hB1.block _ (by simp)]; exact heap_alloc_new w _
  obtain ⟨c0, c1, c2, c3, c4⟩ := cells5 hbx
  have hs1 : w.heap.size < w1.heap.size := by have := hB1.size; simp at this; omega
  clear hbx hB1
  by_cases hdp : 20 < D
  · have HE : Hid (R = (⟨#[]⟩, 13)) := by show _ = _; rw [HR.out, textT, if_pos (by rw [← HDB.out]; simpa using hdp)]
    go_wp2_with fail
    go_ret2
    exact ⟨by rw [HE.out]; rfl, hBw⟩
  · have td : decide ((20 : Int) < D) = false := by simpa using hdp
    have HE : Hid (R = textW 25 t) := by show _ = _; rw [HR.out, textT, if_neg (by rw [← HDB.out, td]; decide), textW]
    clear hdp
    go_wp2_with fail
    refine (txt_any 25 F w1 t na nl nc ka kl kc (H.out.old hBw) HBD.out R HE.out).mono ?_
    rintro e w2 ⟨rfl, hB2⟩
    go_wp2_with fail
    go_ret2
    exact ⟨rfl, hBw.trans (hB2.mono hBw.size)⟩
end Go.Proofs.YtakaonfeegfmpaaDoor
