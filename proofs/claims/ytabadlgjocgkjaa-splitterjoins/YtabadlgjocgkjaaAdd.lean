/-
  The contract of splitter.Add.
-/
import Derived.Test.YtabadlgjocgkjaaFrames
import Derived.WalkMore
namespace Go.Proofs.Ytabadlgjocgkjaa
open Go.RowKit
set_option linter.unusedVariables false
set_option linter.unusedSimpArgs false

set_option maxHeartbeats 400000 in
theorem add_nil (b : Value) (w : World) : Calls Try.prog 13 #[.pointer none, b] w fun e w' => e = .returned (.tuple #[.slice none 0 0, .int .i64 1]) ∧ w' = w := by
  go_enter Try.func13, Try.ntmps13
  go_wp2
  go_step3
  go_wp2
  try rw [Exit.noGoto_ret]
  go_ret2
  exact ⟨rfl, rfl⟩

set_option maxHeartbeats 400000 in
theorem add_err {w : World} {s : Nat} {ver : Int} {kv : Value} {K : List Int} {flt : Int} (h : Spl w s ver kv K flt) (hf : flt ≠ 0) (b : Value) :
    Calls Try.prog 13 #[.pointer (some ⟨s, 0, none⟩), b] w fun e w' => e = .returned (.tuple #[.slice none 0 0, .int .i64 flt]) ∧ Below w.heap.size w w' := by
  obtain ⟨c0, c1, c2, f1, f2⟩ := h.cells
  have hlt := h.lt
  have t : (flt != 0) = true := by simpa using hf
  clear h hf
  go_enter Try.func13, Try.ntmps13
  go_wp2
  go_step3
  go_wp2
  go_quiet (fail)
  go_wp2
  try rw [Exit.noGoto_ret]
  go_ret2
  exact ⟨rfl, below_drewN (Below.refl _ _) _⟩

/-- How things stand in the loop of Add: W1 is the world ahead of it, Z the bytes that were kept then, g1 the block in which they lie. -/
structure AddAt (W1 wr : World) (s : Nat) (ver : Int) (g1 : Option Nat) (Z : List Int) (fv : Value) (fs : List Fr) (a : Option Addr) (n cp : Nat) (R : List Int) : Prop where
  st : Spl wr s ver (.slice a n cp) R 0
  len : R.length = n
  own : Own 44 6 VFr wr (fun k => W1.heap.size ≤ k) fv fs
  blk : (Value.slice a n cp).ownBlock = g1
  kept : Kept (fun k => k = s) W1 wr
  told : spl ver Z = (fs ++ (spl ver R).1, (spl ver R).2)
  isB : IsB wr a n cp R
  le : n ≤ Z.length

/-- What Add tells, and how things stand behind it: w ahead of it, w' behind it; Z all the bytes; kv what was kept, kv' what is. -/
structure Added (w w' : World) (s : Nat) (ver : Int) (kv : Value) (Z : List Int) (fv kv' : Value) : Prop where
  st : Spl w' s ver kv' (spl ver Z).2.1 (spl ver Z).2.2
  own : Own 44 6 VFr w' (fun k => w.heap.size ≤ k ∧ k ≠ s ∧ kv'.ownBlock ≠ some k) fv (spl ver Z).1
  kept : Kept (fun k => k = s ∨ kv.ownBlock = some k) w w'
  blk : ∀ k, kv'.ownBlock = some k → kv.ownBlock = some k ∨ w.heap.size ≤ k

theorem added_of {w W1 wr w' : World} {s : Nat} {ver : Int} {kv : Value} {g1 : Option Nat} {Z : List Int} {fv kv' : Value} {fs : List Fr} (hs : s < w.heap.size) (hK : Kept (fun k => k = s ∨ kv.ownBlock = some k) w W1) (hg : ∀ k, g1 = some k → k < W1.heap.size ∧ (kv.ownBlock = some k ∨ w.heap.size ≤ k))
    (hown : Own 44 6 VFr wr (fun k => W1.heap.size ≤ k) fv fs) (hk : Kept (fun k => k = s) W1 wr) (hB : Kept (fun k => k = s) wr w') (hsp : Spl w' s ver kv' (spl ver Z).2.1 (spl ver Z).2.2) (hfs : fs = (spl ver Z).1) (hkv : kv'.ownBlock = none ∨ kv'.ownBlock = g1) : Added w w' s ver kv Z fv kv' := by
  have hs1 := hK.size
  subst hfs
  refine ⟨hsp, ?_, ?_, fun k e => ?_⟩
  · refine (hown.kept stays_fr hB (fun k hk hf e => by omega)).wide (fun k hk hf => ⟨by omega, by omega, fun e => ?_⟩)
    rcases hkv with hkv | hkv
    · rw [hkv] at e; cases e
    · have := (hg k (by rw [← hkv]; exact e)).1; omega
  · exact (hK.trans hk (fun i _ e => .inl e)).trans hB (fun i _ e => .inl e)
  · rcases hkv with hkv | hkv
    · rw [hkv] at e; cases e
    · exact (hg k (by rw [← hkv]; exact e)).2

theorem ret_fv {fv : Value} {a b : Int} (h : a = b) : Ending.returned (.tuple #[fv, .int .i64 a]) = .returned (.tuple #[fv, .int .i64 b]) := by rw [h]

theorem item_block {z0 z1 z2 z4 l : Int} {x : Option Addr} {n c : Nat} {j k : Nat} (hj : j < 6) (hk : (([.int .u8 z0, .int .u8 z1, .int .i16 z2, .int .u8 z4, .int .u32 l, .slice x n c] : List Value).getD j default).ownBlock = some k) : ∃ p, x = some p ∧ p.block = k := by
  rcases (show j = 0 ∨ j = 1 ∨ j = 2 ∨ j = 3 ∨ j = 4 ∨ j = 5 from by omega) with rfl | rfl | rfl | rfl | rfl | rfl
  · cases hk
  · cases hk
  · cases hk
  · cases hk
  · cases hk
  · cases x with
    | none => cases hk
    | some p => exact ⟨p, rfl, by simpa [Value.ownBlock] using hk⟩

theorem item_ones {z0 z1 z2 z4 l : Int} {x : Option Addr} {n c : Nat} : ∀ u ∈ ([.int .u8 z0, .int .u8 z1, .int .i16 z2, .int .u8 z4, .int .u32 l, .slice x n c] : List Value), u.oneCell' = true := by
  intro u hu
  simp only [List.mem_cons, List.not_mem_nil, or_false] at hu
  rcases hu with rfl | rfl | rfl | rfl | rfl | rfl <;> rfl

theorem AddAt.more {W1 wr : World} {s : Nat} {ver : Int} {g1 : Option Nat} {Z : List Int} {fv : Value} {fs : List Fr} {a : Option Addr} {n cp : Nat} {R : List Int} (h : AddAt W1 wr s ver g1 Z fv fs a n cp R) : fs.length + (spl ver R).1.length = (spl ver Z).1.length := by
  rw [h.told]; simp

/-- One round more. -/
theorem add_round {W1 wr w5 w6' w6 : World} {s : Nat} {ver : Int} {g0 : Option Nat} {Z : List Int} {fv v6 : Value} {fs : List Fr} {g off off' n cp m L : Nat} {R : List Int} {y : Fr} (hs1 : s < W1.heap.size) (hg : ∀ k, g0 = some k → k < W1.heap.size) (h : AddAt W1 wr s ver g0 Z fv fs (some ⟨g, off, none⟩) n cp R)
    (hK5 : Kept (fun k => k = s) wr w5) (sp5 : Spl w5 s ver (.slice (some ⟨g, off', none⟩) m m) (R.drop (9 + L)) 0) (hb5 : BRow w5 g off' m m (R.drop (9 + L))) (hm : m = n - (9 + L)) (hL : 9 + L ≤ n) (hy : fr R = y) (he : hE ver R = 0) (hf : frL R = L)
    (hB : Below w5.heap.size w5 w6') (hK6 : Kept (fun k => fv.ownBlock = some k) w6' w6) (ho : Own 44 6 VFr w6 (fun k => W1.heap.size ≤ k) v6 (fs ++ [y])) :
    AddAt W1 w6 s ver g0 Z v6 (fs ++ [y]) (some ⟨g, off', none⟩) m m (R.drop (9 + L)) := by
  have hlen := h.len
  have hgb : some g = g0 := h.blk
  have hgl := hg g hgb.symm
  have hrow : ∀ k, fv.ownBlock = some k → W1.heap.size ≤ k := fun k e => (h.own.lt k e).1
  have ns : ¬ fv.ownBlock = some s := fun e => by have := hrow s e; omega
  have ng : ¬ fv.ownBlock = some g := fun e => by have := hrow g e; omega
  have hB6 := sp5.old hB
  have hb6 := hb5.old hB
  have hz := hb6.lt
  refine ⟨hB6.keep hK6 ns (fun k e => ?_), by rw [List.length_drop, hlen, hm], ho, hgb, ?_, ?_, ?_, ?_⟩
  · simp only [Value.ownBlock, Option.some.injEq] at e; subst e; exact ng
  · refine (h.kept.trans (hK5.new hB) (fun i _ e => e)).trans hK6 (fun i hi e => ?_)
    have := hrow i e; omega
  · rw [h.told, spl_step he (by rw [hf, hlen]; exact hL), hf, hy]
    simp
  · exact hb6.isB.kept hK6 (fun p e _ => by cases e; exact ng)
  · have := h.le; omega

set_option maxHeartbeats 1000000 in
theorem add_walk {w : World} {s : Nat} {ver : Int} {kv : Value} {K : List Int} (h : Spl w s ver kv K 0) {xa : Option Addr} {len cap : Nat} {bs : List Int} (hB : IsB w xa len cap bs) (hm : K.length + len ≤ 1000000) {Z : List Int} (hZ : K ++ bs = Z) :
    Calls Try.prog 13 #[.pointer (some ⟨s, 0, none⟩), .slice xa len cap] w fun e w' => ∃ fv kv', e = .returned (.tuple #[fv, .int .i64 (spl ver Z).2.2]) ∧ Added w w' s ver kv Z fv kv' := by
  obtain ⟨c0, c1, c2, f1, f2⟩ := h.cells
  have hlt := h.lt
  have H : Hid (Spl w s ver kv K 0) := h
  have HB : Hid (IsB w xa len cap bs) := hB
  have HZ : Hid (Z.length ≤ 1000000) := by have := hB.1; show Z.length ≤ 1000000; rw [← hZ, List.length_append]; omega
  have HZZ : Hid (K ++ bs = Z) := hZ
  clear h hB hZ
  go_enter Try.func13, Try.ntmps13
  go_wp2
  go_step3
  go_wp2_with (at_builtin; refine wpList_append_kept rfl (.tmp 24) (.tmp 25) rfl rfl H.out.kept rfl HB.out (by omega) ?_)
  rintro v1 w1 hk1 hK1 hat1
  rw [HZZ.out] at hk1
  have S1 := H.out.box
  have hb1 : w1.heap[s]? = some (.cells #[.int .u8 ver, kv, .int .i64 0] 57 (0, 0)) := by rw [hK1.block s hlt (fun e => H.out.apart s e rfl)]; exact S1
  have d0 : w1.cell? ⟨s, 0, none⟩ = some (.int .u8 ver) := by simp [World.cell?, hb1]
  have d1 : w1.cell? ⟨s, 1, none⟩ = some kv := by simp [World.cell?, hb1]
  have d2 : w1.cell? ⟨s, 2, none⟩ = some (.int .i64 0) := by simp [World.cell?, hb1]
  have g1 : w1.frozen? ⟨s, 1, none⟩ = false := by simp [World.frozen?, hb1]
  have hlt1 : s < w1.heap.size := Nat.lt_of_lt_of_le hlt hK1.size
  have ap1 : ∀ k, v1.ownBlock = some k → k < w1.heap.size ∧ (kv.ownBlock = some k ∨ w.heap.size ≤ k) := fun k e => ⟨hk1.lt k e, by
    rcases hat1 with hat | hat
    · exact .inl (by rw [← hat]; exact e)
    · rw [hat] at e; simp only [Option.some.injEq] at e; exact .inr (by omega)⟩
  have ne1 : ∀ k, v1.ownBlock = some k → k ≠ s := fun k e he => by
    rcases (ap1 k e).2 with h | h
    · exact H.out.apart k h he
    · omega
  have sp1 : Spl (w1.setCell ⟨s, 1, none⟩ v1) s ver v1 Z 0 := by
    refine ⟨set1_block hb1, hk1.kept ((Kept.refl (fun k => k = s) _).setCell (p := ⟨s, 1, none⟩) (fun _ => rfl) _) (fun k e he => ne1 k e he), ne1⟩
  have HK : Hid (Kept (fun k => k = s ∨ kv.ownBlock = some k) w (w1.setCell ⟨s, 1, none⟩ v1)) := (hK1.wide (fun i _ e => .inr e)).setCell (p := ⟨s, 1, none⟩) (fun _ => .inl rfl) _
  have HG : Hid (∀ k, v1.ownBlock = some k → k < (w1.setCell ⟨s, 1, none⟩ v1).heap.size ∧ (kv.ownBlock = some k ∨ w.heap.size ≤ k)) := fun k e => by simpa using ap1 k e
  obtain ⟨hr1, a1, cp1, rfl, hI1, hp1, ho1⟩ := id hk1
  obtain ⟨n1, hn1⟩ : ∃ n, n = Z.length := ⟨_, rfl⟩
  rw [← hn1] at sp1 HK HG ne1
  rw [← hn1]
  clear hI1
  have HA : Hid (AddAt (w1.setCell ⟨s, 1, none⟩ (.slice a1 n1 cp1)) (w1.setCell ⟨s, 1, none⟩ (.slice a1 n1 cp1)) s ver (Value.slice a1 n1 cp1).ownBlock Z (.slice none 0 0) [] a1 n1 cp1 Z) := by
    refine ⟨sp1, hn1.symm, own_nil _ _ _ _ _, rfl, Kept.refl _ _, rfl, ?_, by omega⟩
    obtain ⟨_, a2, c2, e2, hI2, _⟩ := sp1.kept
    rw [← hn1] at e2 hI2
    cases e2
    exact hI2
  clear hk1 hK1 hat1 S1 hb1 c0 c1 c2 f1 f2 ap1 ne1 sp1 hr1 hp1 ho1 hn1 HB
  go_wp2_with fail
  go_step3
  go_wp2_with fail
  obtain ⟨W1, hW1⟩ : ∃ W, W = w1.setCell ⟨s, 1, none⟩ (.slice a1 n1 cp1) := ⟨_, rfl⟩
  obtain ⟨g0, hg0⟩ : ∃ g, g = (Value.slice a1 n1 cp1).ownBlock := ⟨_, rfl⟩
  rw [← hW1, ← hg0] at HA
  rw [← hW1] at HK
  rw [← hW1, ← hg0] at HG
  have HW1 : Hid (W1 = w1.setCell ⟨s, 1, none⟩ (.slice a1 n1 cp1)) := hW1
  clear d0 d1 d2 g1 hW1 hg0
  go_loopw [6] (fun fv wr => ∃ fs a n cp R, Hid (AddAt W1 wr s ver g0 Z fv fs a n cp R)) (fun fv _ => Z.length - lenV fv)
  case atStart => exact ⟨_, _, _, _, _, by rw [← HW1.out]; exact HA⟩
  case round =>
    obtain ⟨fs, a, n, cp, R, HR⟩ := hrel
    obtain ⟨c0, c1, c2, f1, f2⟩ := HR.out.st.cells
    have hslt := HR.out.st.lt
    have HL : Hid (R.length = n) := HR.out.len
    have hcp : n ≤ cp := HR.out.isB.2.1
    have hcpm : cp ≤ maxLen := HR.out.isB.2.2.1
    unfold maxLen at hcpm
    have hn6 : n ≤ 1000000 := by have := HR.out.le; have := HZ.out; omega
    by_cases h9 : n < 9
    · have HT : Hid (spl ver Z = (fs, R, 0)) := by
        have h1 := HR.out.told
        rw [spl_less (zs := R) (by rw [HL.out]; exact h9)] at h1
        show spl ver Z = _
        simpa using h1
      go_wp2_with fail
      go_quiet (fail)
      go_wp2_with fail
      try rw [Exit.noGoto_ret]
      go_ret2
      have hd : ∀ q, Below wr.heap.size wr (wr.drewN q) := fun q => below_drewN (Below.refl _ _) q
      exact ⟨u6, .slice a n cp, ret_fv (by rw [HT.out]), added_of hlt HK.out HG.out HR.out.own HR.out.kept (kept_of (hd _)) (by rw [HT.out]; exact HR.out.st.old (hd _)) (by rw [HT.out]) (.inr HR.out.blk)⟩
    · have hst : Hid (Spl wr s ver (.slice a R.length cp) R 0) := by show Spl _ _ _ _ _ _; rw [HL.out]; exact HR.out.st
      have hib : Hid (IsB wr a R.length cp R) := by show IsB _ _ _ _ _; rw [HL.out]; exact HR.out.isB
      by_cases he : hE ver R = 0
      · obtain ⟨g, off, ha, hbr⟩ := HR.out.isB.2.2.2.2 (by omega)
        subst ha
        have HBR : Hid (BRow wr g off n cp R) := hbr
        have hl0 := (hok_of hbr.rng).l0
        have hl1 := (hok_of hbr.rng).l1
        have HC : Hid _ := head_ok hst.out hib.out he
        obtain ⟨z0, hz0⟩ : ∃ z, z = R.getD 0 0 := ⟨_, rfl⟩
        obtain ⟨z1, hz1⟩ : ∃ z, z = R.getD 1 0 := ⟨_, rfl⟩
        obtain ⟨z2, hz2⟩ : ∃ z, z = strm R := ⟨_, rfl⟩
        obtain ⟨z4, hz4⟩ : ∃ z, z = R.getD 4 0 := ⟨_, rfl⟩
        obtain ⟨L, hL⟩ : ∃ L, L = frL R := ⟨_, rfl⟩
        have hz5 : leng R = (L : Int) := by rw [hL]; unfold frL; omega
        rw [← hz0, ← hz1, ← hz2, ← hz4, hz5] at HC
        rw [hz5] at hl0 hl1
        have HFR : Hid (fr R = (z0, z1, z2, z4, (L : Int), (R.drop 9).take L)) := by show fr R = _; unfold fr; rw [hz0, hz1, hz2, hz4, hz5, hL]
        have HE0 : Hid (hE ver R = 0) := he
        have HFL : Hid (frL R = L) := hL.symm
        clear he hst hib hz0 hz1 hz2 hz4 hz5 hL hbr
        go_wp2_with fail
        refine Calls.mono HC.out ?_
        rintro e w2 ⟨rfl, hB2⟩
        clear HC
        have hB3 : Below wr.heap.size wr (w2.alloc (.cells #[.int .u8 z0, .int .u8 z1, .int .i16 z2, .int .u8 z4, .int .u32 L] 42)) := hB2.trans ((below_one _ _).mono hB2.size)
        have hz2s : wr.heap.size ≤ w2.heap.size := hB2.size
        clear c0 c1 c2 f1 f2
        go_upto_region 11 with fail
        go_cut [46] (fun b wc => b = .bool (decide ((n : Int) < 9 + L)) ∧ Below (w2.heap.size + 1) (w2.alloc (.cells #[.int .u8 z0, .int .u8 z1, .int .i16 z2, .int .u8 z4, .int .u32 L] 42)) wc)
        case first =>
          have HS : Hid (∀ W, Below (w2.heap.size + 1) (w2.alloc (.cells #[.int .u8 z0, .int .u8 z1, .int .i16 z2, .int .u8 z4, .int .u32 L] 42)) W → W.cell? ⟨s, 1, none⟩ = some (.slice (some ⟨g, off, none⟩) n cp)) := fun W hW => (HR.out.st.old (hB3.trans (hW.mono (by omega)))).cells.2.1
          have e1 := HS.out _ (Below.refl _ _)
          have hsw : s < w2.heap.size := by omega
          go_region_with (go_at_call 22; refine (sizeOf_any z0 z1 z2 z4 _ _ hl0 hl1).mono ?_; rintro e w3 ⟨rfl, hB4⟩; have hB5 : Below (w2.heap.size + 1) (w2.alloc (.cells #[.int .u8 z0, .int .u8 z1, .int .i16 z2, .int .u8 z4, .int .u32 L] 42)) w3 := ((Below.refl _ _).drew).trans (hB4.mono (by simp)); have e2 := HS.out w3 hB5; have hs3 : s < w3.heap.size := by have := hB5.size; simp at this; omega)
          all_goals (go_wp2_with fail; go_meet; exact ⟨rfl, hB5⟩)
        case rest =>
          obtain ⟨rfl, hBc⟩ := hcut
          have hBw : Below wr.heap.size wr wc := hB3.trans (hBc.mono (by omega))
          have spc := HR.out.st.old hBw
          obtain ⟨c0, c1, c2, f1, f2⟩ := spc.cells
          obtain ⟨p0, p1, p2, p3, p4, hz⟩ := box5 hBc
          have hsc := spc.lt
          have SPC : Hid (Spl wc s ver (.slice (some ⟨g, off, none⟩) n cp) R 0) := spc
          have HBW : Hid (Below wr.heap.size wr wc) := hBw
          clear spc hBw hB2 hB3
          by_cases hl : n < 9 + L
          · have HT : Hid (spl ver Z = (fs, R, 0)) := by
              have h1 := HR.out.told
              rw [spl_waits (zs := R) (by rw [HL.out]; omega) HE0.out (by rw [HL.out, HFL.out]; exact hl)] at h1
              show spl ver Z = _
              simpa using h1
            have hd : decide ((n : Int) < 9 + L) = true := by simp; omega
            go_wp2_with fail
            go_quiet (fail)
            go_wp2_with fail
            try rw [Exit.noGoto_ret]
            go_ret2
            have hd : ∀ q, Below wr.heap.size wr (wc.drewN q) := fun q => below_drewN HBW.out q
            exact ⟨u6, .slice (some ⟨g, off, none⟩) n cp, ret_fv (by rw [HT.out]), added_of hlt HK.out HG.out HR.out.own HR.out.kept (kept_of (hd _)) (by rw [HT.out]; exact HR.out.st.old (hd _)) (by rw [HT.out]) (.inr HR.out.blk)⟩
          · have hd : decide ((n : Int) < 9 + L) = false := by simp; omega
            have hL9 : 9 + L ≤ n := by omega
            have HBC : Hid (BRow wc g off n cp R) := HBR.out.old HBW.out
            go_wp2_with fail
            refine (takeOff_any (v := z0) (f := z1) (st := z2) (o := z4) (l := (L : Int)) (L := L) SPC.out HBC.out rfl hL9 (by omega) hl1).mono ?_
            rintro e w5 ⟨x, cx, off', m, hm', rfl, hI5, hx5, sp5, hb5, hK5⟩
            have hs1 : s < W1.heap.size := Nat.lt_of_lt_of_le hlt HK.out.size
            have hK5' : Kept (fun k => k = s) wr w5 := (kept_of (S := fun k => k = s) HBW.out).trans hK5 (fun i _ e => e)
            have hW5 : W1.heap.size ≤ w5.heap.size := Nat.le_trans HR.out.kept.size hK5'.size
            have hRow : ∀ k, u6.ownBlock = some k → W1.heap.size ≤ k ∧ k < wr.heap.size := HR.out.own.lt
            have hcz := HBW.out.size
            have HO5 : Hid (Own 44 6 VFr (w5.alloc (.cells #[.int .u8 z0, .int .u8 z1, .int .i16 z2, .int .u8 z4, .int .u32 L, .slice x L cx] 44)) (fun k => W1.heap.size ≤ k) u6 fs) := (HR.out.own.kept stays_fr hK5' (fun k _ hf e => by omega)).old stays_fr (below_one _ _)
            have HV5 : Hid (VFr (w5.alloc (.cells #[.int .u8 z0, .int .u8 z1, .int .i16 z2, .int .u8 z4, .int .u32 L, .slice x L cx] 44)) ((z0, z1, z2, z4, (L : Int), (R.drop 9).take L) : Fr) (fun j => ([.int .u8 z0, .int .u8 z1, .int .i16 z2, .int .u8 z4, .int .u32 L, .slice x L cx] : List Value).getD j default)) :=
              ⟨rfl, rfl, rfl, rfl, rfl, x, L, cx, rfl, hI5.old (below_one _ _)⟩
            have HX5 : Hid (∀ j k, j < 6 → (([.int .u8 z0, .int .u8 z1, .int .i16 z2, .int .u8 z4, .int .u32 L, .slice x L cx] : List Value).getD j default).ownBlock = some k → k < (w5.alloc (.cells #[.int .u8 z0, .int .u8 z1, .int .i16 z2, .int .u8 z4, .int .u32 L, .slice x L cx] 44)).heap.size ∧ u6.ownBlock ≠ some k ∧ W1.heap.size ≤ k) := by
              intro j k hj hk
              obtain ⟨p, hp, rfl⟩ := item_block hj hk
              have h1 := hx5 p hp
              have h2 := HR.out.kept.size
              exact ⟨by simp; omega, fun e => by have := (hRow _ e).2; omega, by omega⟩
            have hcnt : fs.length + 1 ≤ Z.length := by
              have h1 := HR.out.more
              have h2 := (spl_rest (ver := ver) Z.length Z (Nat.le_refl _)).2.2.2
              rw [spl_step (zs := R) HE0.out (by rw [HFL.out, HL.out]; exact hL9)] at h1
              simp only [List.length_cons] at h1
              omega
            have hcZ := HZ.out
            have HI5 : Hid (Spl w5 s ver (.slice (some ⟨g, off', none⟩) m m) (R.drop (9 + L)) 0) := sp5
            have HBR5 : Hid (BRow w5 g off' m m (R.drop (9 + L))) := hb5
            have HK5 : Hid (Kept (fun k => k = s) wr w5) := hK5'
            have HM : Hid (m = n - (9 + L)) := hm'
            clear hI5 hx5 sp5 hb5 hK5 hK5' hm' c0 c1 c2 f1 f2 hRow
            go_wp2_with (at_builtin; refine wpList_append_item rfl (.tmp 55) (.tmp 59) 31 rfl stays_fr elem_fr rfl HO5.out rfl (heap_alloc_new w5 _) rfl item_ones _ HV5.out HX5.out (by simp; omega) (by unfold maxLen; omega) (by omega) ?_)
            rintro v6 w6 ho6 hK6 hat6
            have HO6 : Hid (Own 44 6 VFr w6 (fun k => W1.heap.size ≤ k) v6 (fs ++ [((z0, z1, z2, z4, (L : Int), (R.drop 9).take L) : Fr)])) := ho6
            have HK6 : Hid (Kept (fun k => u6.ownBlock = some k) (w5.alloc (.cells #[.int .u8 z0, .int .u8 z1, .int .i16 z2, .int .u8 z4, .int .u32 L, .slice x L cx] 44)) w6) := hK6
            clear ho6 hK6 hat6
            go_wp2_with fail
            go_roundw
            case rel => exact ⟨_, _, _, _, _, add_round hs1 (fun k e => (HG.out k e).1) HR.out HK5.out HI5.out HBR5.out HM.out hL9 HFR.out HE0.out HFL.out (below_one _ _) HK6.out HO6.out⟩
            case measure =>
              rw [HO6.out.lenV, HR.out.own.lenV]
              simp
              omega
      · have HT : Hid (spl ver Z = (fs, [], hE ver R)) := by
          have h1 := HR.out.told
          rw [spl_wrong (zs := R) (by rw [HL.out]; omega) he] at h1
          show spl ver Z = _
          simpa using h1
        have HC : Hid _ := head_err hst.out hib.out he
        obtain ⟨E, hEE⟩ : ∃ E, E = hE ver R := ⟨_, rfl⟩
        rw [← hEE] at HT HC he
        have t : (E != 0) = true := by simpa using he
        clear he hEE hst hib
        go_wp2_with fail
        refine Calls.mono HC.out ?_
        rintro e w2 ⟨rfl, hB2⟩
        clear HC
        go_wp2_with fail
        refine (fail_any ((HR.out.st.old hB2).old (below_one _ _)) E).mono ?_
        rintro e w3 ⟨rfl, sp3, hK3⟩
        obtain ⟨d0, d1, d2, g1, g2⟩ := sp3.cells
        have hs3 := sp3.lt
        have SP3 : Hid (Spl w3 s ver (.slice none 0 0) [] E) := sp3
        have HK3 : Hid (Kept (fun k => k = s) wr w3) := (kept_of (S := fun k => k = s) (hB2.trans ((below_one _ _).mono hB2.size))).trans hK3 (fun i _ e => e)
        clear sp3 hK3 hB2 c0 c1 c2 f1 f2
        go_wp2_with fail
        go_quiet (fail)
        go_wp2_with fail
        try rw [Exit.noGoto_ret]
        go_ret2
        have hd : ∀ q, Below w3.heap.size w3 (w3.drewN q) := fun q => below_drewN (Below.refl _ _) q
        exact ⟨u6, .slice none 0 0, ret_fv (by rw [HT.out]), added_of hlt HK.out HG.out HR.out.own HR.out.kept (HK3.out.new (hd _)) (by rw [HT.out]; exact SP3.out.old (hd _)) (by rw [HT.out]) (.inl rfl)⟩
end Go.Proofs.Ytabadlgjocgkjaa
