/-
  SplitterPieces, walked.
-/
import Derived.Test.YtabadlgjocgkjaaAddOn
namespace Go.Proofs.Ytabadlgjocgkjaa
open Go.RowKit
set_option linter.unusedVariables false
set_option linter.unusedSimpArgs false

/-- How things stand while pieces come: of the first P bytes of Q. -/
structure TwoAt (w3 wr : World) (s : Nat) (ver : Int) (Q : List Int) (P : Nat) (mv kv : Value) : Prop where
  st : Spl wr s ver kv (spl ver (Q.take P)).2.1 (spl ver (Q.take P)).2.2
  own : Own 44 6 VFr wr (fun k => w3.heap.size ≤ k ∧ k ≠ s ∧ kv.ownBlock ≠ some k) mv (spl ver (Q.take P)).1
  bel : Below w3.heap.size w3 wr
  blk : ∀ k, kv.ownBlock = some k → w3.heap.size ≤ k

theorem take_piece {Q : List Int} {P T : Nat} (h : P ≤ T) : Q.take P ++ (Q.drop P).take (T - P) = Q.take T := by
  have : T = P + (T - P) := by omega
  conv => rhs; rw [this, List.take_add]

/-- Behind Add, ahead of append: what stands of frames that were told already. -/
theorem TwoAt.mid {w3 wr w6 : World} {s : Nat} {ver : Int} {Q p : List Int} {P : Nat} {mv kv xv kv' : Value} {ys : List Fr} (h : TwoAt w3 wr s ver Q P mv kv) (hA : AddedOn wr w6 s ver kv (Q.take P) p xv kv' ys) (hs : w3.heap.size ≤ s) :
    Own 44 6 VFr w6 (fun k => w3.heap.size ≤ k ∧ k ≠ s ∧ kv'.ownBlock ≠ some k) mv (spl ver (Q.take P)).1 ∧ (∀ k, mv.ownBlock = some k → k < wr.heap.size) ∧ Below w3.heap.size w3 w6 ∧ (∀ k, kv'.ownBlock = some k → w3.heap.size ≤ k) := by
  have hz := h.bel.size
  refine ⟨?_, fun k e => (h.own.lt k e).2, h.bel.trans (hA.kept.below hz (fun k _ e => ?_)), fun k e => ?_⟩
  · have h1 := h.own.wide (F' := fun k => (w3.heap.size ≤ k ∧ k ≠ s ∧ kv.ownBlock ≠ some k) ∧ k < wr.heap.size) (fun k hk hf => ⟨hf, hk⟩)
    refine (h1.kept stays_fr hA.kept (fun k _ hf e => ?_)).wide (fun k _ hf => ⟨hf.1.1, hf.1.2.1, fun e => ?_⟩)
    · rcases e with e | e
      · exact hf.1.2.1 e
      · exact hf.1.2.2 e
    · rcases hA.blk k e with h2 | h2
      · exact hf.1.2.2 h2
      · omega
  · rcases e with e | e
    · omega
    · exact h.blk k e
  · rcases hA.blk k e with h2 | h2
    · exact h.blk k h2
    · omega

theorem TwoAt.next {w3 wr w6 w7 : World} {s : Nat} {ver : Int} {Q p : List Int} {P T : Nat} {mv kv xv kv' mv' : Value} {ys : List Fr} (h : TwoAt w3 wr s ver Q P mv kv) (hA : AddedOn wr w6 s ver kv (Q.take P) p xv kv' ys) (hs : w3.heap.size ≤ s) (hT : Q.take P ++ p = Q.take T)
    (ho : Own 44 6 VFr w7 (fun k => w3.heap.size ≤ k ∧ k ≠ s ∧ kv'.ownBlock ≠ some k) mv' ((spl ver (Q.take P)).1 ++ ys)) (hK : Kept (fun k => mv.ownBlock = some k) w6 w7) : TwoAt w3 w7 s ver Q T mv' kv' := by
  obtain ⟨h1, h2, h3, h4⟩ := h.mid hA hs
  have hz := h3.size
  have hst := hA.st
  have ht := hA.told
  rw [hT] at hst ht
  refine ⟨hst.keep hK (fun e => (h1.lt s e).1.2.1 rfl) (fun k e he => (h1.lt k he).1.2.2 e), by rw [ht]; exact ho, h3.trans (hK.below hz (fun k _ e => (h1.lt k e).1.1)), h4⟩

set_option maxHeartbeats 400000 in
theorem pieces_pass (ver : Int) (a : Option Addr) (len cap : Nat) (a2 : Option Addr) (len2 cap2 : Nat) (w : World) (h : 2000 < len ∨ 200 < len2) :
    Calls Try.prog 4 #[.int .u8 ver, .slice a len cap, .slice a2 len2 cap2] w fun e w' => e = .returned (.bool true) ∧ Below w.heap.size w w' := by
  by_cases h1 : 2000 < len
  · go_enter Try.func4, Try.ntmps4
    go_wp2_with fail
    refine (awake_any _).mono ?_
    rintro e w0 ⟨rfl, hB0⟩
    go_wp2_with fail
    go_ret
    exact ⟨rfl, hB0⟩
  · have h2 : 200 < len2 := by omega
    have hd : decide ((2000 : Int) < len) = false := by simp; omega
    go_enter Try.func4, Try.ntmps4
    go_wp2_with fail
    refine (awake_any _).mono ?_
    rintro e w0 ⟨rfl, hB0⟩
    go_wp2_with fail
    go_ret
    exact ⟨rfl, hB0⟩

theorem isB_void {w : World} (a : Option Addr) (c : Nat) (hc : c ≤ maxLen) (ha : a = none → c = 0) (zs : List Int) (hz : zs.length = 0) : IsB w a 0 c zs :=
  ⟨hz, Nat.zero_le _, hc, fun e => ⟨rfl, ha e⟩, fun h => by omega⟩

theorem spl_nil (ver : Int) : spl ver [] = ([], [], 0) := rfl

set_option maxHeartbeats 4000000 in
theorem pieces_walk (ver : Int) (a : Option Addr) (len cap : Nat) (Q : List Int) (a2 : Option Addr) (len2 cap2 : Nat) (Y : List Int) (w : World) (hI : IsB w a len cap Q) (hI0 : 0 < cap → ∃ b off, a = some ⟨b, off, none⟩) (hI2 : IsB w a2 len2 cap2 Y) (h1 : len ≤ 2000) (h2 : len2 ≤ 200) :
    Calls Try.prog 4 #[.int .u8 ver, .slice a len cap, .slice a2 len2 cap2] w fun e w' => e = .returned (.bool true) ∧ Below w.heap.size w w' := by
  have HI : Hid (IsB w a len cap Q) := hI
  have HI2 : Hid (IsB w a2 len2 cap2 Y) := hI2
  have HQL : Hid (Q.length = len) := hI.1
  have hcap : len ≤ cap := hI.2.1
  have hcm : cap ≤ maxLen := hI.2.2.1
  have hcap2 : len2 ≤ cap2 := hI2.2.1
  have hcm2 : cap2 ≤ maxLen := hI2.2.2.1
  unfold maxLen at hcm hcm2
  have hl5 : decide ((2000 : Int) < len) = false := by simp; omega
  have hl8 : decide ((200 : Int) < len2) = false := by simp; omega
  obtain ⟨fs, R, E, hS⟩ : ∃ fs R E, spl ver Q = (fs, R, E) := ⟨_, _, _, rfl⟩
  have HS : Hid (spl ver Q = (fs, R, E)) := hS
  have hfl : fs.length ≤ 2000 := by
    have := (spl_rest (ver := ver) _ Q (Nat.le_refl _)).2.2.2
    rw [hS] at this
    have h3 : fs.length ≤ Q.length := this
    have := HQL.out
    omega
  have HI0 : Hid (0 < cap → ∃ b off, a = some ⟨b, off, none⟩) := hI0
  clear hI hI2 hS hI0
  go_enter Try.func4, Try.ntmps4
  go_wp2_with fail
  refine (awake_any _).mono ?_
  rintro e w0 ⟨rfl, hB0⟩
  have HB0 : Hid (Below w.heap.size w w0) := hB0
  clear hB0
  go_wp2_with fail
  refine (new_any ver _).mono ?_
  rintro e w1 ⟨rfl, sp1, hB1, hz1⟩
  obtain ⟨s1, hs1⟩ : ∃ s, s = w0.heap.size := ⟨_, rfl⟩
  rw [← hs1] at sp1
  rw [← hs1]
  have S1 : Hid (Spl w1 s1 ver (.slice none 0 0) [] 0) := sp1
  have HB1 : Hid (Below w.heap.size w w1) := HB0.out.trans (hB1.mono HB0.out.size)
  have hs1w : w.heap.size ≤ s1 := by have := HB0.out.size; omega
  have hs1l : s1 < w1.heap.size := by omega
  clear sp1 hB1 hz1 hs1
  go_wp2_with fail
  refine (add_any S1.out (HI.out.old HB1.out) (by simp; omega) rfl HS.out).mono ?_
  rintro e w2 ⟨fv, kv, rfl, sp2, ho2, hK2, hb2⟩
  obtain ⟨af, cf, hfv, hvf, _⟩ := ho2.view
  obtain ⟨nf, hnf⟩ : ∃ n, n = fs.length := ⟨_, rfl⟩
  rw [← hnf] at hfv hvf hfl
  subst hfv
  have HVF : Hid (View 6 VFr w2 af nf cf fs) := hvf
  have S2 : Hid (Spl w2 s1 ver kv R E) := sp2
  have HB2 : Hid (Below w.heap.size w w2) := HB1.out.trans (hK2.below (by omega) (fun k _ e => by rcases e with e | e; omega; simp [Value.ownBlock] at e))
  have HNF : Hid (nf = fs.length) := hnf
  clear sp2 ho2 hK2 hb2 hvf hnf S1
  go_wp2_with fail
  refine (new_any ver _).mono ?_
  rintro e w3 ⟨rfl, sp3, hB3, hz3⟩
  obtain ⟨s, hs⟩ : ∃ s, s = w2.heap.size := ⟨_, rfl⟩
  rw [← hs] at sp3
  rw [← hs]
  have hss : w2.heap.size ≤ s := by omega
  have hsl : s < w3.heap.size := by omega
  have HA3 : Hid (TwoAt w2 w3 s ver Q 0 (.slice none 0 0) (.slice none 0 0)) := by
    refine ⟨?_, ?_, hB3, fun k e => by simp [Value.ownBlock] at e⟩
    · rw [List.take_zero, spl_nil]; exact sp3
    · rw [List.take_zero, spl_nil]; exact own_nil _ _ _ _ _
  clear sp3 hB3 hz3 hs
  go_wp2_with fail
  go_loopw [12, 13, 14, 15] (fun mv fe av iv wr => ∃ (P i : Nat) (E' : Int) (kv' : Value), fe = .int .i64 E' ∧ av = .int .i64 P ∧ iv = .int .i64 i ∧ P ≤ len ∧ i ≤ len2 + 1 ∧ Hid ((spl ver (Q.take P)).2.2 = E' ∧ TwoAt w2 wr s ver Q P mv kv' ∧ (i = len2 + 1 → P = len))) (fun _ _ _ iv _ => len2 + 1 - (intOf iv).toNat)
  case atStart => exact ⟨0, 0, 0, _, rfl, rfl, rfl, by omega, by omega, by rw [List.take_zero, spl_nil], HA3.out, fun e => by omega⟩
  case round =>
    obtain ⟨P, i, E', kv', rfl, rfl, rfl, hP, hi, HR⟩ := hrel
    have HBW : Hid (Below w.heap.size w wr) := HB2.out.trans (HR.out.2.1.bel.mono HB2.out.size)
    have hzr : w2.heap.size ≤ wr.heap.size := HR.out.2.1.bel.size
    have hslr : s < wr.heap.size := HR.out.2.1.st.lt
    by_cases hlt : i ≤ len2
    · have hli : (i : Int) ≤ len2 := by omega
      obtain ⟨zN, HZ⟩ : ∃ zN : Nat, Hid (i < len2 → zN ≤ 255 ∧ ∃ gs os, a2 = some ⟨gs, os, none⟩ ∧ gs < wr.heap.size ∧ wr.cell? ⟨gs, os + i, none⟩ = some (.int .u8 zN)) := by
        by_cases hi2 : i < len2
        · obtain ⟨gs, os, ha, hR⟩ := (HI2.out.old HBW.out).2.2.2.2 (by omega)
          have hr := hR.rng i
          have hc := hR.cell i hi2
          rw [List.getD_eq_getElem?_getD] at hc
          exact ⟨(Y[i]?.getD 0).toNat, fun _ => ⟨by omega, gs, os, ha, hR.lt (by omega), by rw [hc]; congr 2; omega⟩⟩
        · exact ⟨0, fun h => absurd h hi2⟩
      have HQ : Hid (IsB wr a len cap Q) := HI.out.old HBW.out
      have step : ∀ T, P ≤ T → T ≤ len → (i = len2 → T = len) → Hid (P ≤ T ∧ T ≤ len ∧ (i = len2 → T = len) ∧ Q.take P ++ (Q.drop P).take (T - P) = Q.take T ∧ (spl ver (Q.take T)).1.length ≤ 2000) := fun T h1 h2 h3 => ⟨h1, h2, h3, take_piece h1, by
        have := (spl_rest (ver := ver) _ (Q.take T) (Nat.le_refl _)).2.2.2
        rw [List.length_take, HQL.out] at this
        omega⟩
      have HST : Hid _ := step
      clear step
      have hTP : (Q.take P).length = P := by rw [List.length_take, HQL.out]; omega
      have HTP : Hid ((Q.take P).length = P) := hTP
      clear hTP
      rcases (show (i < len2 ∧ P + zN < len) ∨ (i < len2 ∧ ¬ P + zN < len) ∨ (i = len2) from by omega) with ⟨hi2, hz⟩ | ⟨hi2, hz⟩ | hi2
      · obtain ⟨hz2, gs, os, ha2, hgs, hcz⟩ := HZ.out hi2
        subst ha2
        obtain ⟨gb, ob, hab⟩ := HI0.out (by omega)
        subst hab
        obtain ⟨_, _, hab2, hbr⟩ := HQ.out.2.2.2.2 (by omega)
        cases hab2
        have hi2i : (i : Int) < len2 := by omega
        have hzi : (P : Int) + zN < len := by omega
        have hPc : ¬ cap = P := by omega
        have HPI : Hid (∀ L c', L = P + zN - P → c' = cap - P → IsB wr (some ⟨gb, ob + P, none⟩) L c' ((Q.drop P).take (P + zN - P))) := fun L c' h1 h2 => by subst h1 h2; exact hbr.piece P (P + zN) (by omega) (by omega) (fun _ => rfl)
        obtain ⟨T, hT⟩ : ∃ T, T = P + zN := ⟨_, rfl⟩
        have HTe : Hid (T = P + zN) := hT
        rw [← hT] at HPI
        clear hbr hT
        go_wp2_with fail
        refine (add_on HR.out.2.1.st (HPI.out _ _ (by have := HTe.out; omega) (by omega)) (by rw [HTP.out]; omega)).mono ?_
        rintro e w6 ⟨xv, kv6, ys, rfl, hA⟩
        obtain ⟨m1, m2, m3, m4⟩ := HR.out.2.1.mid hA hss
        have HH := (HST.out T (by have := HTe.out; omega) (by have := HTe.out; omega) (by have := HTe.out; omega)).out
        obtain ⟨E6, hE6⟩ : ∃ E6, E6 = (spl ver (Q.take P ++ (Q.drop P).take (T - P))).2.2 := ⟨_, rfl⟩
        rw [← hE6]
        have HE6 : Hid ((spl ver (Q.take T)).2.2 = E6) := by rw [hE6, HH.2.2.2.1]; exact rfl
        have HA : Hid (AddedOn wr w6 s ver kv' (Q.take P) ((Q.drop P).take (T - P)) xv kv6 ys) := hA
        have M1 : Hid (Own 44 6 VFr w6 (fun k => w2.heap.size ≤ k ∧ k ≠ s ∧ kv6.ownBlock ≠ some k) u12 (spl ver (Q.take P)).1) := m1
        have HFF : Hid (∀ k, k < w6.heap.size → (wr.heap.size ≤ k ∧ k ≠ s ∧ kv6.ownBlock ≠ some k) → (w2.heap.size ≤ k ∧ k ≠ s ∧ kv6.ownBlock ≠ some k)) := fun k _ h => ⟨by omega, h.2⟩
        have HAP : Hid (∀ k, u12.ownBlock = some k → ¬ (wr.heap.size ≤ k ∧ k ≠ s ∧ kv6.ownBlock ≠ some k)) := fun k e h => by have := m2 k e; omega
        have HF6 : Hid (w2.heap.size ≤ w6.heap.size ∧ w6.heap.size ≠ s ∧ kv6.ownBlock ≠ some w6.heap.size) := ⟨m3.size, by have := hA.st.lt; omega, fun e => by have := hA.st.kept.lt _ e; omega⟩
        have HM6 : Hid ((spl ver (Q.take P)).1.length + ys.length ≤ 1000000) := by
          have h1 := congrArg List.length hA.told
          rw [HH.2.2.2.1, List.length_append] at h1
          have h2 := HH.2.2.2.2
          show _ ≤ _
          omega
        have HTT : Hid (Q.take P ++ (Q.drop P).take (T - P) = Q.take T) := HH.2.2.2.1
        have HTB : Hid _ := And.intro HH.1 (And.intro HH.2.1 HH.2.2.1)
        clear hA m1 m2 m3 m4 HH hE6
        go_wp2_with (at_builtin; refine wpList_append_frames rfl (.tmp 79) (.tmp 80) rfl rfl M1.out rfl HA.out.own HFF.out HAP.out HF6.out HM6.out ?_)
        rintro v7 w7 ho7 hK7
        have HO7 : Hid (Own 44 6 VFr w7 (fun k => w2.heap.size ≤ k ∧ k ≠ s ∧ kv6.ownBlock ≠ some k) v7 ((spl ver (Q.take P)).1 ++ ys)) := ho7
        have HK7 : Hid (Kept (fun k => u12.ownBlock = some k) w6 w7) := hK7
        clear ho7 hK7
        go_wp2_with fail
        go_roundw
        case rel => exact ⟨T, i + 1, E6, kv6, rfl, by rw [HTe.out]; go_num, by go_num, HTB.out.2.1, by omega, HE6.out, HR.out.2.1.next HA.out hss HTT.out HO7.out HK7.out, fun e => HTB.out.2.2 (by omega)⟩
        case measure => simp [intOf]; omega
      · obtain ⟨hz2, gs, os, ha2, hgs, hcz⟩ := HZ.out hi2
        subst ha2
        have hi2i : (i : Int) < len2 := by omega
        have hzi : ¬ (P : Int) + zN < len := by omega
        obtain ⟨T, hT⟩ : ∃ T, T = len := ⟨_, rfl⟩
        have HTe : Hid (T = len) := hT
        by_cases hcP : cap = P
        · have hlP : P = len := by omega
          have hcP2 : P = cap := hcP.symm
          have HPI : Hid (∀ L c', L = T - P → c' = 0 → IsB wr a L c' ((Q.drop P).take (T - P))) := fun L c' h1 h2 => by
            obtain rfl : L = 0 := by omega
            subst h2
            exact isB_void a 0 (by unfold maxLen; omega) (fun _ => rfl) _ (by rw [List.length_take]; omega)
          clear hT
          clear hcP
          subst hcP2
          subst hlP
          cases a with
          | none =>
            go_wp2_with fail
            refine (add_on HR.out.2.1.st (HPI.out _ _ (by have := HTe.out; omega) (by omega)) (by rw [HTP.out]; omega)).mono ?_
            rintro e w6 ⟨xv, kv6, ys, rfl, hA⟩
            obtain ⟨m1, m2, m3, m4⟩ := HR.out.2.1.mid hA hss
            have HH := (HST.out T (by have := HTe.out; omega) (by have := HTe.out; omega) (by have := HTe.out; omega)).out
            obtain ⟨E6, hE6⟩ : ∃ E6, E6 = (spl ver (Q.take P ++ (Q.drop P).take (T - P))).2.2 := ⟨_, rfl⟩
            rw [← hE6]
            have HE6 : Hid ((spl ver (Q.take T)).2.2 = E6) := by rw [hE6, HH.2.2.2.1]; exact rfl
            have HA : Hid (AddedOn wr w6 s ver kv' (Q.take P) ((Q.drop P).take (T - P)) xv kv6 ys) := hA
            have M1 : Hid (Own 44 6 VFr w6 (fun k => w2.heap.size ≤ k ∧ k ≠ s ∧ kv6.ownBlock ≠ some k) u12 (spl ver (Q.take P)).1) := m1
            have HFF : Hid (∀ k, k < w6.heap.size → (wr.heap.size ≤ k ∧ k ≠ s ∧ kv6.ownBlock ≠ some k) → (w2.heap.size ≤ k ∧ k ≠ s ∧ kv6.ownBlock ≠ some k)) := fun k _ h => ⟨by omega, h.2⟩
            have HAP : Hid (∀ k, u12.ownBlock = some k → ¬ (wr.heap.size ≤ k ∧ k ≠ s ∧ kv6.ownBlock ≠ some k)) := fun k e h => by have := m2 k e; omega
            have HF6 : Hid (w2.heap.size ≤ w6.heap.size ∧ w6.heap.size ≠ s ∧ kv6.ownBlock ≠ some w6.heap.size) := ⟨m3.size, by have := hA.st.lt; omega, fun e => by have := hA.st.kept.lt _ e; omega⟩
            have HM6 : Hid ((spl ver (Q.take P)).1.length + ys.length ≤ 1000000) := by
              have h1 := congrArg List.length hA.told
              rw [HH.2.2.2.1, List.length_append] at h1
              have h2 := HH.2.2.2.2
              show _ ≤ _
              omega
            have HTT : Hid (Q.take P ++ (Q.drop P).take (T - P) = Q.take T) := HH.2.2.2.1
            have HTB : Hid _ := And.intro HH.1 (And.intro HH.2.1 HH.2.2.1)
            clear hA m1 m2 m3 m4 HH hE6
            go_wp2_with (at_builtin; refine wpList_append_frames rfl (.tmp 79) (.tmp 80) rfl rfl M1.out rfl HA.out.own HFF.out HAP.out HF6.out HM6.out ?_)
            rintro v7 w7 ho7 hK7
            have HO7 : Hid (Own 44 6 VFr w7 (fun k => w2.heap.size ≤ k ∧ k ≠ s ∧ kv6.ownBlock ≠ some k) v7 ((spl ver (Q.take P)).1 ++ ys)) := ho7
            have HK7 : Hid (Kept (fun k => u12.ownBlock = some k) w6 w7) := hK7
            clear ho7 hK7
            go_wp2_with fail
            go_roundw
            case rel => exact ⟨T, i + 1, E6, kv6, rfl, by rw [HTe.out], by go_num, HTB.out.2.1, by omega, HE6.out, HR.out.2.1.next HA.out hss HTT.out HO7.out HK7.out, fun e => HTB.out.2.2 (by omega)⟩
            case measure => simp [intOf]; omega
          | some x =>
            go_wp2_with fail
            refine (add_on HR.out.2.1.st (HPI.out _ _ (by have := HTe.out; omega) (by omega)) (by rw [HTP.out]; omega)).mono ?_
            rintro e w6 ⟨xv, kv6, ys, rfl, hA⟩
            obtain ⟨m1, m2, m3, m4⟩ := HR.out.2.1.mid hA hss
            have HH := (HST.out T (by have := HTe.out; omega) (by have := HTe.out; omega) (by have := HTe.out; omega)).out
            obtain ⟨E6, hE6⟩ : ∃ E6, E6 = (spl ver (Q.take P ++ (Q.drop P).take (T - P))).2.2 := ⟨_, rfl⟩
            rw [← hE6]
            have HE6 : Hid ((spl ver (Q.take T)).2.2 = E6) := by rw [hE6, HH.2.2.2.1]; exact rfl
            have HA : Hid (AddedOn wr w6 s ver kv' (Q.take P) ((Q.drop P).take (T - P)) xv kv6 ys) := hA
            have M1 : Hid (Own 44 6 VFr w6 (fun k => w2.heap.size ≤ k ∧ k ≠ s ∧ kv6.ownBlock ≠ some k) u12 (spl ver (Q.take P)).1) := m1
            have HFF : Hid (∀ k, k < w6.heap.size → (wr.heap.size ≤ k ∧ k ≠ s ∧ kv6.ownBlock ≠ some k) → (w2.heap.size ≤ k ∧ k ≠ s ∧ kv6.ownBlock ≠ some k)) := fun k _ h => ⟨by omega, h.2⟩
            have HAP : Hid (∀ k, u12.ownBlock = some k → ¬ (wr.heap.size ≤ k ∧ k ≠ s ∧ kv6.ownBlock ≠ some k)) := fun k e h => by have := m2 k e; omega
            have HF6 : Hid (w2.heap.size ≤ w6.heap.size ∧ w6.heap.size ≠ s ∧ kv6.ownBlock ≠ some w6.heap.size) := ⟨m3.size, by have := hA.st.lt; omega, fun e => by have := hA.st.kept.lt _ e; omega⟩
            have HM6 : Hid ((spl ver (Q.take P)).1.length + ys.length ≤ 1000000) := by
              have h1 := congrArg List.length hA.told
              rw [HH.2.2.2.1, List.length_append] at h1
              have h2 := HH.2.2.2.2
              show _ ≤ _
              omega
            have HTT : Hid (Q.take P ++ (Q.drop P).take (T - P) = Q.take T) := HH.2.2.2.1
            have HTB : Hid _ := And.intro HH.1 (And.intro HH.2.1 HH.2.2.1)
            clear hA m1 m2 m3 m4 HH hE6
            go_wp2_with (at_builtin; refine wpList_append_frames rfl (.tmp 79) (.tmp 80) rfl rfl M1.out rfl HA.out.own HFF.out HAP.out HF6.out HM6.out ?_)
            rintro v7 w7 ho7 hK7
            have HO7 : Hid (Own 44 6 VFr w7 (fun k => w2.heap.size ≤ k ∧ k ≠ s ∧ kv6.ownBlock ≠ some k) v7 ((spl ver (Q.take P)).1 ++ ys)) := ho7
            have HK7 : Hid (Kept (fun k => u12.ownBlock = some k) w6 w7) := hK7
            clear ho7 hK7
            go_wp2_with fail
            go_roundw
            case rel => exact ⟨T, i + 1, E6, kv6, rfl, by rw [HTe.out], by go_num, HTB.out.2.1, by omega, HE6.out, HR.out.2.1.next HA.out hss HTT.out HO7.out HK7.out, fun e => HTB.out.2.2 (by omega)⟩
            case measure => simp [intOf]; omega
        · obtain ⟨gb, ob, hab⟩ := HI0.out (by omega)
          subst hab
          have HPI : Hid (∀ L c', L = T - P → c' = cap - P → IsB wr (some ⟨gb, ob + P, none⟩) L c' ((Q.drop P).take (T - P))) := fun L c' h1 h2 => by
            subst h1 h2
            by_cases h0 : 0 < len
            · obtain ⟨_, _, hab2, hbr⟩ := HQ.out.2.2.2.2 h0
              cases hab2
              exact hbr.piece P T (by omega) (by omega) (fun _ => rfl)
            · rw [show T - P = 0 from by omega]
              exact isB_void _ _ (by unfold maxLen; omega) (fun e => by cases e) _ (by simp)
          clear hT
          go_wp2_with fail
          refine (add_on HR.out.2.1.st (HPI.out _ _ (by have := HTe.out; omega) (by omega)) (by rw [HTP.out]; omega)).mono ?_
          rintro e w6 ⟨xv, kv6, ys, rfl, hA⟩
          obtain ⟨m1, m2, m3, m4⟩ := HR.out.2.1.mid hA hss
          have HH := (HST.out T (by have := HTe.out; omega) (by have := HTe.out; omega) (by have := HTe.out; omega)).out
          obtain ⟨E6, hE6⟩ : ∃ E6, E6 = (spl ver (Q.take P ++ (Q.drop P).take (T - P))).2.2 := ⟨_, rfl⟩
          rw [← hE6]
          have HE6 : Hid ((spl ver (Q.take T)).2.2 = E6) := by rw [hE6, HH.2.2.2.1]; exact rfl
          have HA : Hid (AddedOn wr w6 s ver kv' (Q.take P) ((Q.drop P).take (T - P)) xv kv6 ys) := hA
          have M1 : Hid (Own 44 6 VFr w6 (fun k => w2.heap.size ≤ k ∧ k ≠ s ∧ kv6.ownBlock ≠ some k) u12 (spl ver (Q.take P)).1) := m1
          have HFF : Hid (∀ k, k < w6.heap.size → (wr.heap.size ≤ k ∧ k ≠ s ∧ kv6.ownBlock ≠ some k) → (w2.heap.size ≤ k ∧ k ≠ s ∧ kv6.ownBlock ≠ some k)) := fun k _ h => ⟨by omega, h.2⟩
          have HAP : Hid (∀ k, u12.ownBlock = some k → ¬ (wr.heap.size ≤ k ∧ k ≠ s ∧ kv6.ownBlock ≠ some k)) := fun k e h => by have := m2 k e; omega
          have HF6 : Hid (w2.heap.size ≤ w6.heap.size ∧ w6.heap.size ≠ s ∧ kv6.ownBlock ≠ some w6.heap.size) := ⟨m3.size, by have := hA.st.lt; omega, fun e => by have := hA.st.kept.lt _ e; omega⟩
          have HM6 : Hid ((spl ver (Q.take P)).1.length + ys.length ≤ 1000000) := by
            have h1 := congrArg List.length hA.told
            rw [HH.2.2.2.1, List.length_append] at h1
            have h2 := HH.2.2.2.2
            show _ ≤ _
            omega
          have HTT : Hid (Q.take P ++ (Q.drop P).take (T - P) = Q.take T) := HH.2.2.2.1
          have HTB : Hid _ := And.intro HH.1 (And.intro HH.2.1 HH.2.2.1)
          clear hA m1 m2 m3 m4 HH hE6
          go_wp2_with (at_builtin; refine wpList_append_frames rfl (.tmp 79) (.tmp 80) rfl rfl M1.out rfl HA.out.own HFF.out HAP.out HF6.out HM6.out ?_)
          rintro v7 w7 ho7 hK7
          have HO7 : Hid (Own 44 6 VFr w7 (fun k => w2.heap.size ≤ k ∧ k ≠ s ∧ kv6.ownBlock ≠ some k) v7 ((spl ver (Q.take P)).1 ++ ys)) := ho7
          have HK7 : Hid (Kept (fun k => u12.ownBlock = some k) w6 w7) := hK7
          clear ho7 hK7
          go_wp2_with fail
          go_roundw
          case rel => exact ⟨T, i + 1, E6, kv6, rfl, by rw [HTe.out], by go_num, HTB.out.2.1, by omega, HE6.out, HR.out.2.1.next HA.out hss HTT.out HO7.out HK7.out, fun e => HTB.out.2.2 (by omega)⟩
          case measure => simp [intOf]; omega
      · have hi2i : ¬ (i : Int) < len2 := by omega
        obtain ⟨T, hT⟩ : ∃ T, T = len := ⟨_, rfl⟩
        have HTe : Hid (T = len) := hT
        by_cases hcP : cap = P
        · have hlP : P = len := by omega
          have hcP2 : P = cap := hcP.symm
          have HPI : Hid (∀ L c', L = T - P → c' = 0 → IsB wr a L c' ((Q.drop P).take (T - P))) := fun L c' h1 h2 => by
            obtain rfl : L = 0 := by omega
            subst h2
            exact isB_void a 0 (by unfold maxLen; omega) (fun _ => rfl) _ (by rw [List.length_take]; omega)
          clear hT
          clear hcP
          subst hcP2
          subst hlP
          cases a with
          | none =>
            go_wp2_with fail
            refine (add_on HR.out.2.1.st (HPI.out _ _ (by have := HTe.out; omega) (by omega)) (by rw [HTP.out]; omega)).mono ?_
            rintro e w6 ⟨xv, kv6, ys, rfl, hA⟩
            obtain ⟨m1, m2, m3, m4⟩ := HR.out.2.1.mid hA hss
            have HH := (HST.out T (by have := HTe.out; omega) (by have := HTe.out; omega) (by have := HTe.out; omega)).out
            obtain ⟨E6, hE6⟩ : ∃ E6, E6 = (spl ver (Q.take P ++ (Q.drop P).take (T - P))).2.2 := ⟨_, rfl⟩
            rw [← hE6]
            have HE6 : Hid ((spl ver (Q.take T)).2.2 = E6) := by rw [hE6, HH.2.2.2.1]; exact rfl
            have HA : Hid (AddedOn wr w6 s ver kv' (Q.take P) ((Q.drop P).take (T - P)) xv kv6 ys) := hA
            have M1 : Hid (Own 44 6 VFr w6 (fun k => w2.heap.size ≤ k ∧ k ≠ s ∧ kv6.ownBlock ≠ some k) u12 (spl ver (Q.take P)).1) := m1
            have HFF : Hid (∀ k, k < w6.heap.size → (wr.heap.size ≤ k ∧ k ≠ s ∧ kv6.ownBlock ≠ some k) → (w2.heap.size ≤ k ∧ k ≠ s ∧ kv6.ownBlock ≠ some k)) := fun k _ h => ⟨by omega, h.2⟩
            have HAP : Hid (∀ k, u12.ownBlock = some k → ¬ (wr.heap.size ≤ k ∧ k ≠ s ∧ kv6.ownBlock ≠ some k)) := fun k e h => by have := m2 k e; omega
            have HF6 : Hid (w2.heap.size ≤ w6.heap.size ∧ w6.heap.size ≠ s ∧ kv6.ownBlock ≠ some w6.heap.size) := ⟨m3.size, by have := hA.st.lt; omega, fun e => by have := hA.st.kept.lt _ e; omega⟩
            have HM6 : Hid ((spl ver (Q.take P)).1.length + ys.length ≤ 1000000) := by
              have h1 := congrArg List.length hA.told
              rw [HH.2.2.2.1, List.length_append] at h1
              have h2 := HH.2.2.2.2
              show _ ≤ _
              omega
            have HTT : Hid (Q.take P ++ (Q.drop P).take (T - P) = Q.take T) := HH.2.2.2.1
            have HTB : Hid _ := And.intro HH.1 (And.intro HH.2.1 HH.2.2.1)
            clear hA m1 m2 m3 m4 HH hE6
            go_wp2_with (at_builtin; refine wpList_append_frames rfl (.tmp 79) (.tmp 80) rfl rfl M1.out rfl HA.out.own HFF.out HAP.out HF6.out HM6.out ?_)
            rintro v7 w7 ho7 hK7
            have HO7 : Hid (Own 44 6 VFr w7 (fun k => w2.heap.size ≤ k ∧ k ≠ s ∧ kv6.ownBlock ≠ some k) v7 ((spl ver (Q.take P)).1 ++ ys)) := ho7
            have HK7 : Hid (Kept (fun k => u12.ownBlock = some k) w6 w7) := hK7
            clear ho7 hK7
            go_wp2_with fail
            go_roundw
            case rel => exact ⟨T, i + 1, E6, kv6, rfl, by rw [HTe.out], by go_num, HTB.out.2.1, by omega, HE6.out, HR.out.2.1.next HA.out hss HTT.out HO7.out HK7.out, fun e => HTB.out.2.2 (by omega)⟩
            case measure => simp [intOf]; omega
          | some x =>
            go_wp2_with fail
            refine (add_on HR.out.2.1.st (HPI.out _ _ (by have := HTe.out; omega) (by omega)) (by rw [HTP.out]; omega)).mono ?_
            rintro e w6 ⟨xv, kv6, ys, rfl, hA⟩
            obtain ⟨m1, m2, m3, m4⟩ := HR.out.2.1.mid hA hss
            have HH := (HST.out T (by have := HTe.out; omega) (by have := HTe.out; omega) (by have := HTe.out; omega)).out
            obtain ⟨E6, hE6⟩ : ∃ E6, E6 = (spl ver (Q.take P ++ (Q.drop P).take (T - P))).2.2 := ⟨_, rfl⟩
            rw [← hE6]
            have HE6 : Hid ((spl ver (Q.take T)).2.2 = E6) := by rw [hE6, HH.2.2.2.1]; exact rfl
            have HA : Hid (AddedOn wr w6 s ver kv' (Q.take P) ((Q.drop P).take (T - P)) xv kv6 ys) := hA
            have M1 : Hid (Own 44 6 VFr w6 (fun k => w2.heap.size ≤ k ∧ k ≠ s ∧ kv6.ownBlock ≠ some k) u12 (spl ver (Q.take P)).1) := m1
            have HFF : Hid (∀ k, k < w6.heap.size → (wr.heap.size ≤ k ∧ k ≠ s ∧ kv6.ownBlock ≠ some k) → (w2.heap.size ≤ k ∧ k ≠ s ∧ kv6.ownBlock ≠ some k)) := fun k _ h => ⟨by omega, h.2⟩
            have HAP : Hid (∀ k, u12.ownBlock = some k → ¬ (wr.heap.size ≤ k ∧ k ≠ s ∧ kv6.ownBlock ≠ some k)) := fun k e h => by have := m2 k e; omega
            have HF6 : Hid (w2.heap.size ≤ w6.heap.size ∧ w6.heap.size ≠ s ∧ kv6.ownBlock ≠ some w6.heap.size) := ⟨m3.size, by have := hA.st.lt; omega, fun e => by have := hA.st.kept.lt _ e; omega⟩
            have HM6 : Hid ((spl ver (Q.take P)).1.length + ys.length ≤ 1000000) := by
              have h1 := congrArg List.length hA.told
              rw [HH.2.2.2.1, List.length_append] at h1
              have h2 := HH.2.2.2.2
              show _ ≤ _
              omega
            have HTT : Hid (Q.take P ++ (Q.drop P).take (T - P) = Q.take T) := HH.2.2.2.1
            have HTB : Hid _ := And.intro HH.1 (And.intro HH.2.1 HH.2.2.1)
            clear hA m1 m2 m3 m4 HH hE6
            go_wp2_with (at_builtin; refine wpList_append_frames rfl (.tmp 79) (.tmp 80) rfl rfl M1.out rfl HA.out.own HFF.out HAP.out HF6.out HM6.out ?_)
            rintro v7 w7 ho7 hK7
            have HO7 : Hid (Own 44 6 VFr w7 (fun k => w2.heap.size ≤ k ∧ k ≠ s ∧ kv6.ownBlock ≠ some k) v7 ((spl ver (Q.take P)).1 ++ ys)) := ho7
            have HK7 : Hid (Kept (fun k => u12.ownBlock = some k) w6 w7) := hK7
            clear ho7 hK7
            go_wp2_with fail
            go_roundw
            case rel => exact ⟨T, i + 1, E6, kv6, rfl, by rw [HTe.out], by go_num, HTB.out.2.1, by omega, HE6.out, HR.out.2.1.next HA.out hss HTT.out HO7.out HK7.out, fun e => HTB.out.2.2 (by omega)⟩
            case measure => simp [intOf]; omega
        · obtain ⟨gb, ob, hab⟩ := HI0.out (by omega)
          subst hab
          have HPI : Hid (∀ L c', L = T - P → c' = cap - P → IsB wr (some ⟨gb, ob + P, none⟩) L c' ((Q.drop P).take (T - P))) := fun L c' h1 h2 => by
            subst h1 h2
            by_cases h0 : 0 < len
            · obtain ⟨_, _, hab2, hbr⟩ := HQ.out.2.2.2.2 h0
              cases hab2
              exact hbr.piece P T (by omega) (by omega) (fun _ => rfl)
            · rw [show T - P = 0 from by omega]
              exact isB_void _ _ (by unfold maxLen; omega) (fun e => by cases e) _ (by simp)
          clear hT
          go_wp2_with fail
          refine (add_on HR.out.2.1.st (HPI.out _ _ (by have := HTe.out; omega) (by omega)) (by rw [HTP.out]; omega)).mono ?_
          rintro e w6 ⟨xv, kv6, ys, rfl, hA⟩
          obtain ⟨m1, m2, m3, m4⟩ := HR.out.2.1.mid hA hss
          have HH := (HST.out T (by have := HTe.out; omega) (by have := HTe.out; omega) (by have := HTe.out; omega)).out
          obtain ⟨E6, hE6⟩ : ∃ E6, E6 = (spl ver (Q.take P ++ (Q.drop P).take (T - P))).2.2 := ⟨_, rfl⟩
          rw [← hE6]
          have HE6 : Hid ((spl ver (Q.take T)).2.2 = E6) := by rw [hE6, HH.2.2.2.1]; exact rfl
          have HA : Hid (AddedOn wr w6 s ver kv' (Q.take P) ((Q.drop P).take (T - P)) xv kv6 ys) := hA
          have M1 : Hid (Own 44 6 VFr w6 (fun k => w2.heap.size ≤ k ∧ k ≠ s ∧ kv6.ownBlock ≠ some k) u12 (spl ver (Q.take P)).1) := m1
          have HFF : Hid (∀ k, k < w6.heap.size → (wr.heap.size ≤ k ∧ k ≠ s ∧ kv6.ownBlock ≠ some k) → (w2.heap.size ≤ k ∧ k ≠ s ∧ kv6.ownBlock ≠ some k)) := fun k _ h => ⟨by omega, h.2⟩
          have HAP : Hid (∀ k, u12.ownBlock = some k → ¬ (wr.heap.size ≤ k ∧ k ≠ s ∧ kv6.ownBlock ≠ some k)) := fun k e h => by have := m2 k e; omega
          have HF6 : Hid (w2.heap.size ≤ w6.heap.size ∧ w6.heap.size ≠ s ∧ kv6.ownBlock ≠ some w6.heap.size) := ⟨m3.size, by have := hA.st.lt; omega, fun e => by have := hA.st.kept.lt _ e; omega⟩
          have HM6 : Hid ((spl ver (Q.take P)).1.length + ys.length ≤ 1000000) := by
            have h1 := congrArg List.length hA.told
            rw [HH.2.2.2.1, List.length_append] at h1
            have h2 := HH.2.2.2.2
            show _ ≤ _
            omega
          have HTT : Hid (Q.take P ++ (Q.drop P).take (T - P) = Q.take T) := HH.2.2.2.1
          have HTB : Hid _ := And.intro HH.1 (And.intro HH.2.1 HH.2.2.1)
          clear hA m1 m2 m3 m4 HH hE6
          go_wp2_with (at_builtin; refine wpList_append_frames rfl (.tmp 79) (.tmp 80) rfl rfl M1.out rfl HA.out.own HFF.out HAP.out HF6.out HM6.out ?_)
          rintro v7 w7 ho7 hK7
          have HO7 : Hid (Own 44 6 VFr w7 (fun k => w2.heap.size ≤ k ∧ k ≠ s ∧ kv6.ownBlock ≠ some k) v7 ((spl ver (Q.take P)).1 ++ ys)) := ho7
          have HK7 : Hid (Kept (fun k => u12.ownBlock = some k) w6 w7) := hK7
          clear ho7 hK7
          go_wp2_with fail
          go_roundw
          case rel => exact ⟨T, i + 1, E6, kv6, rfl, by rw [HTe.out], by go_num, HTB.out.2.1, by omega, HE6.out, HR.out.2.1.next HA.out hss HTT.out HO7.out HK7.out, fun e => HTB.out.2.2 (by omega)⟩
          case measure => simp [intOf]; omega
    · have hli : ¬ (i : Int) ≤ len2 := by omega
      have hPl : P = len := HR.out.2.2 (by omega)
      have hQT : Q.take P = Q := List.take_of_length_le (by rw [HQL.out, hPl]; exact Nat.le_refl _)
      obtain ⟨hE', hT2, _⟩ := HR.out
      have hst := hT2.st
      have hown := hT2.own
      rw [hQT, HS.out] at hE' hst hown
      have hEE : E = E' := hE'
      subst hEE
      have S2r : Hid (Spl wr s ver kv' R E) := hst
      have S1r : Hid (Spl wr s1 ver kv R E) := S2.out.old hT2.bel
      obtain ⟨am, cm, hmv, hvm, _⟩ := hown.view
      rw [← HNF.out] at hmv hvm
      subst hmv
      have HVM : Hid (View 6 VFr wr am nf cm fs) := hvm
      have HVL : Hid (View 6 VFr wr af nf cf fs) := HVF.out.old stays_fr hT2.bel
      obtain ⟨nR, hnR⟩ : ∃ n, R.length = n := ⟨_, rfl⟩
      have HNR : Hid (R.length = nR) := hnR
      clear hE' hT2 hst hown hvm hQT hnR
      go_wp2_with fail
      refine (left_at S1r.out HNR.out).mono ?_
      rintro e w8 ⟨rfl, rfl⟩
      go_wp2_with fail
      refine (left_at S2r.out HNR.out).mono ?_
      rintro e w9 ⟨rfl, rfl⟩
      go_wp2_with fail
      refine (framesOf_any HVL.out (by omega)).mono ?_
      rintro e wa ⟨va, rfl, hoa, hBa⟩
      have HVM2 : Hid (View 6 VFr wa am nf cm fs) := HVM.out.old stays_fr hBa
      obtain ⟨aa, ca, hva, hvva, _⟩ := hoa.view
      rw [← HNF.out] at hva hvva
      subst hva
      have HVA : Hid (View 6 VF wa aa nf ca fs) := hvva
      have HBA : Hid (Below w.heap.size w wa) := HBW.out.trans (hBa.mono HBW.out.size)
      clear hoa hBa hvva
      go_wp2_with fail
      refine (framesOf_any HVM2.out (by omega)).mono ?_
      rintro e wb ⟨vb, rfl, hob, hBb⟩
      have HVA2 : Hid (View 6 VF wb aa nf ca fs) := HVA.out.old stays_f hBb
      obtain ⟨ab, cb, hvb, hvvb, _⟩ := hob.view
      rw [← HNF.out] at hvb hvvb
      subst hvb
      have HVB : Hid (View 6 VF wb ab nf cb fs) := hvvb
      have HBB : Hid (Below w.heap.size w wb) := HBA.out.trans (hBb.mono HBA.out.size)
      clear hob hBb hvvb
      go_wp2_with fail
      refine (same_any HVA2.out HVB.out).mono ?_
      rintro e wc ⟨rfl, hBc⟩
      have HBC : Hid (Below w.heap.size w wc) := HBB.out.trans (hBc.mono HBB.out.size)
      clear hBc
      go_wp2_with fail
      go_ret
      exact ⟨rfl, HBC.out⟩

theorem pieces_any (ver : Int) (a : Option Addr) (len cap : Nat) (Q : List Int) (a2 : Option Addr) (len2 cap2 : Nat) (Y : List Int) (w : World) (hI : IsRow .u8 w a len cap Q) (hI2 : IsRow .u8 w a2 len2 cap2 Y) :
    Calls Try.prog 4 #[.int .u8 ver, .slice a len cap, .slice a2 len2 cap2] w fun e w' => e = .returned (.bool true) ∧ Below w.heap.size w w' := by
  by_cases h : 2000 < len ∨ 200 < len2
  · exact pieces_pass ver a len cap a2 len2 cap2 w h
  · exact pieces_walk ver a len cap _ a2 len2 cap2 _ w hI.isB (fun hc => by obtain ⟨b, off, ha, _⟩ := hI.at hc; exact ⟨b, off, ha⟩) hI2.isB (by omega) (by omega)
end Go.Proofs.Ytabadlgjocgkjaa
