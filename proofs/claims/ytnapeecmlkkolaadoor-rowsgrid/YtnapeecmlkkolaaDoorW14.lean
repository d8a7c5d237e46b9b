/-
  What may be put: isOfOneTable; the writer: a table ahead of its rows.
-/
import Derived.Test.YtnapeecmlkkolaaDoorW13
namespace Go.Proofs.YtnapeecmlkkolaaDoor
open Go.RowKit
set_option maxRecDepth 100000
set_option linter.unusedVariables false
set_option linter.unusedSimpArgs false

def oneOf (s0 t0 : ByteArray) (c : Col) : Bool := nmB c.1 s0 && nmB c.2.1 t0
def oneB : List Col → Bool
  | [] => true
  | c :: r => (c :: r).all (oneOf c.1 c.2.1)

set_option maxHeartbeats 2000000 in
theorem oneTable_any {m : Nat} {F : Nat → Prop} {w : World} {a : Option Addr} {len cap : Nat} {xs : List Col} (h : Sees 8 F (VCol (m + 1) F w) w a len cap xs) {d : Bool} (hd : d = oneB xs) :
    Calls Tryd.prog 31 #[.slice a len cap] w fun e w' => e = .returned (.bool d) ∧ Hid (Below w.heap.size w w') := by
  have H : Hid (Sees 8 F (VCol (m + 1) F w) w a len cap xs) := h
  have hml := h.max
  unfold maxLen at hml
  have HLN : Hid (xs.length = len) := h.1
  obtain ⟨s0, t0, hst⟩ : ∃ s0 t0, d = (xs.drop 0).all (oneOf s0 t0) ∧ (∀ c, xs[0]? = some c → c.1 = s0 ∧ c.2.1 = t0) := by
    rw [hd]
    cases xs with
    | nil => exact ⟨⟨#[]⟩, ⟨#[]⟩, rfl, fun c hc => by simp at hc⟩
    | cons c r => exact ⟨c.1, c.2.1, rfl, fun c' hc => by simp at hc; subst hc; exact ⟨rfl, rfl⟩⟩
  have HR0 : Hid ((xs.drop 0).all (oneOf s0 t0) = d) := hst.1.symm
  have H0 : Hid (∀ c, xs[0]? = some c → c.1 = s0 ∧ c.2.1 = t0) := hst.2
  clear h hd hst
  go_enter Tryd.func31, Tryd.ntmps31
  go_wp2_with fail
  go_loopw [7] (fun i wr => ∃ k : Nat, k ≤ len ∧ i = .int .i64 k ∧ Hid ((xs.drop k).all (oneOf s0 t0) = d) ∧ Hid (Below w.heap.size w wr)) (fun i _ => len - (intOf i).toNat)
  case atStart => exact ⟨0, by omega, rfl, HR0, Below.refl _ _⟩
  case round =>
    obtain ⟨k, hk, rfl, HI, HBk⟩ := hrel
    by_cases hlt2 : k < len
    · have HXk : Hid (Sees 8 F (VCol (m + 1) F wr) wr a len cap xs) := H.out.kept (stays_col (m + 1)) (F' := F) (fun k hk _ => HBk.out.block k hk) HBk.out.size (fun _ _ hf => hf)
      obtain ⟨sz, tz, nz, XZ, bz, oz, naz, nlz, ncz, kaz, klz, kcz, hxz, haz, hbsz, _, ⟨z0, z1, _⟩, _, _⟩ := HXk.out.col (k := 0) (by omega)
      obtain ⟨s, t, nm, X, b8, off, na, nl, nc, ka, kl, kc, hx, ha, hbs, hF, ⟨c0, c1, c2, c3, c4, c5, c6, c7⟩, hsz, hty⟩ := HXk.out.col hlt2
      subst ha
      cases haz
      have hz := H0.out _ hxz
      simp only at hz
      obtain ⟨rfl, rfl⟩ := hz
      simp only [Nat.zero_mul, Nat.add_zero] at z0 z1
      have HX : Hid (xs.drop k = (s, t, nm, X) :: xs.drop (k + 1)) := drop_cons hx
      have hp0 : 0 < len := by omega
      obtain ⟨g, hg⟩ : ∃ g, g = wr.heap.size := ⟨_, rfl⟩
      have HGE : Hid (wr.heap.size = g) := hg.symm
      obtain ⟨w0, hw0⟩ : ∃ w0, w0 = wr.alloc (.cells #[.string s, .string t, .string nm, .int .u16 X.id, .string X.space, .string X.name, .slice na nl nc, .slice ka kl kc] 64) := ⟨_, rfl⟩
      have HW0E : Hid (wr.alloc (.cells #[.string s, .string t, .string nm, .int .u16 X.id, .string X.space, .string X.name, .slice na nl nc, .slice ka kl kc] 64) = w0) := hw0.symm
      have hB0 : Below wr.heap.size wr w0 := by rw [hw0]; exact below_one _ _
      have hg0 : w0.heap[g]? = some (.cells #[.string s, .string t, .string nm, .int .u16 X.id, .string X.space, .string X.name, .slice na nl nc, .slice ka kl kc] 64 (0, 0)) := by rw [hw0, hg]; exact heap_alloc_new wr _
      obtain ⟨⟨k0, k1, k2, k3, k4, k5, k6, k7⟩, _⟩ := blk8 hg0
      have y0 : w0.cell? ⟨bz, oz, none⟩ = some (.string sz) := by rw [hB0.cell (p := ⟨bz, oz, none⟩) hbs]; exact z0
      have y1 : w0.cell? ⟨bz, oz + 1, none⟩ = some (.string tz) := by rw [hB0.cell (p := ⟨bz, oz + 1, none⟩) hbs]; exact z1
      have HB1 : Hid (Below w.heap.size w w0) := HBk.out.trans (hB0.mono HBk.out.size)
      have hlg := block_lt hg0
      have hbz0 : bz < w0.heap.size := Nat.lt_of_lt_of_le hbs hB0.size
      clear hx hsz hty hF hg hw0 hB0 hg0 hxz z0 z1
      by_cases hs : nmB s sz = true
      · have qs : (s.toList == sz.toList) = true := hs
        have qs2 : (s.toList != sz.toList) = false := by simp only [bne, qs]; rfl
        by_cases ht : nmB t tz = true
        · have qt : (t.toList == tz.toList) = true := ht
          have qt2 : (t.toList != tz.toList) = false := by simp only [bne, qt]; rfl
          have HE : Hid ((xs.drop (k + 1)).all (oneOf sz tz) = d) := by show _ = _; rw [← HI.out, HX.out, List.all_cons, oneOf]; simp [hs, ht]
          clear hs ht
          go_upto_region 4 with fail
          rw [HW0E.out]
          (try rw [HGE.out])
          clear HW0E
          go_wp2_with fail
          go_quiet (fail)
          go_wp2_with fail
          go_roundw
          case rel => exact ⟨k + 1, by omega, by go_num, HE, below_drewN HB1.out _⟩
          case measure => simp [intOf]; omega
        · have qt : (t.toList == tz.toList) = false := by have : nmB t tz = false := by simpa using ht
                                                          exact this
          have qt2 : (t.toList != tz.toList) = true := by simp only [bne, qt]; rfl
          have HE : Hid (d = false) := by show _ = _; rw [← HI.out, HX.out, List.all_cons, oneOf]; simp [ht]
          clear hs ht
          go_upto_region 4 with fail
          rw [HW0E.out]
          (try rw [HGE.out])
          clear HW0E
          go_wp2_with fail
          go_quiet (fail)
          go_wp2_with fail
          go_ret
          exact ⟨by rw [HE.out]; rfl, below_drewN HB1.out _⟩
      · have qs : (s.toList == sz.toList) = false := by have : nmB s sz = false := by simpa using hs
                                                        exact this
        have qs2 : (s.toList != sz.toList) = true := by simp only [bne, qs]; rfl
        have HE : Hid (d = false) := by show _ = _; rw [← HI.out, HX.out, List.all_cons, oneOf]; simp [hs]
        clear hs
        go_upto_region 4 with fail
        rw [HW0E.out]
        (try rw [HGE.out])
        clear HW0E
        go_wp2_with fail
        go_quiet (fail)
        go_wp2_with fail
        go_ret
        exact ⟨by rw [HE.out]; rfl, below_drewN HB1.out _⟩
    · have HE : Hid (d = true) := by
        show _ = _
        rw [← HI.out, List.drop_eq_nil_of_le (by rw [HLN.out]; omega)]
        rfl
      go_wp2_with fail
      go_ret
      exact ⟨by rw [HE.out]; rfl, HBk⟩

/-- What a table costs at most. -/
def tabW (n : Nat) (T : Tb) : Nat := 16 + (valW T.2.2.2.1 + ((T.2.1.map (colW n)).sum + (T.2.2.2.2.map rowW).sum))

set_option maxHeartbeats 2000000 in
theorem wtable {n : Nat} {w : World} {p : Nat} {v : Value} {S : BE} (h : Wr w p v S) (hT : Tab w) (hp0 : 0 < p) {T : Tb} {ca : Option Addr} {cl cc : Nat} {x : Option Addr} {lx cx : Nat} {ra : Option Addr} {rl rc : Nat}
    (hV : TbV (n + 1) (fun z => z < p) w T ca cl cc x lx cx ra rl rc) (hc : 0 ≤ T.1 ∧ T.1 ≤ 4096) {f : Int} (hf : 0 ≤ f ∧ f ≤ 7) (hsm : T.2.2.2.1.2.size ≤ 140737488351232)
    (hbd : S.1.length + (12 + (valW T.2.2.2.1 + (T.2.1.map (colW n)).sum)) ≤ 140737488355328) {R : BE} (hR : R = seqB S (headB n f T)) :
    Calls Tryd.prog 32 #[.pointer (some ⟨p, 0, none⟩), .agg #[.int .i64 T.1, .slice ca cl cc, .bool T.2.2.1, .int .i64 T.2.2.2.1.1, .slice x lx cx, .slice ra rl rc], .int .i64 f] w fun r w' => r = .returned (.tuple #[]) ∧ ∃ v', Hid (Wr w' p v' R) ∧ Hid (Chg p v v' w w') := by
  obtain ⟨w0, hw0⟩ : ∃ w0, w0 = w.alloc (.cells #[.int .i64 T.1, .slice ca cl cc, .bool T.2.2.1, .int .i64 T.2.2.2.1.1, .slice x lx cx, .slice ra rl rc] 29) := ⟨_, rfl⟩
  have HW0E : Hid (w.alloc (.cells #[.int .i64 T.1, .slice ca cl cc, .bool T.2.2.1, .int .i64 T.2.2.2.1.1, .slice x lx cx, .slice ra rl rc] 29) = w0) := hw0.symm
  obtain ⟨g, hg⟩ : ∃ g, g = w.heap.size := ⟨_, rfl⟩
  have HGE : Hid (w.heap.size = g) := hg.symm
  have hB0 : Below w.heap.size w w0 := by rw [hw0]; exact below_one _ _
  have HG0 : Hid (w0.heap[g]? = some (.cells #[.int .i64 T.1, .slice ca cl cc, .bool T.2.2.1, .int .i64 T.2.2.2.1.1, .slice x lx cx, .slice ra rl rc] 29 (0, 0))) := by rw [hw0, hg]; exact heap_alloc_new w _
  have HW0 : Hid (Wr w0 p v S) := h.new hB0
  have HT0 : Hid (Tab w0) := hT.old hB0
  have HV0 : Hid (TbV (n + 1) (fun z => z < p) w0 T ca cl cc x lx cx ra rl rc) := hV.old hB0
  have HC0 : Hid (Chg p v v w w0) := chg_new hB0
  have HPG : Hid (p < g) := by have := h.lt; show p < g; omega
  have HFR0 : Hid (v.ownBlock ≠ some g) := fun e => by have := (h.far g e).2; omega
  have HRE : Hid (R = seqB S (headB n f T)) := hR
  have HBD : Hid (S.1.length + (12 + (valW T.2.2.2.1 + (T.2.1.map (colW n)).sum)) ≤ 140737488355328) := hbd
  have HSM : Hid (T.2.2.2.1.2.size ≤ 140737488351232) := hsm
  obtain ⟨⟨k0, k1, k2, k3, k4, k5⟩, _⟩ := blk6 HG0.out
  have hgl := block_lt HG0.out
  obtain ⟨b1, hb1⟩ : ∃ b1, b1 = bitX f 1 := ⟨_, rfl⟩
  have HB1 : Hid (b1 = bitX f 1) := hb1
  have tb1 : (bits .and .i64 f 1 != 0) = b1 := hb1.symm
  obtain ⟨cnt, hcnt⟩ : ∃ cnt, cnt = T.1 := ⟨_, rfl⟩
  have HCN : Hid (cnt = T.1) := hcnt
  rw [← hcnt] at hc k0
  clear hw0 hg hB0 h hT hV hR hbd hsm hb1 hcnt
  go_enter Tryd.func32, Tryd.ntmps32
  go_upto_region 1 with fail
  (try rw [HGE.out])
  rw [HW0E.out]
  clear HW0E
  go_wp2_with fail
  refine (wnumber HW0.out f hf.1 (by omega) (by have := HBD.out; omega)).mono ?_
  rintro r w1 ⟨rfl, v1, HW1, HC1⟩
  have HG1 : Hid (w1.heap[g]? = some (.cells #[.int .i64 T.1, .slice ca cl cc, .bool T.2.2.1, .int .i64 T.2.2.2.1.1, .slice x lx cx, .slice ra rl rc] 29 (0, 0))) := (HC1.out.1.block g hgl (fun e => by rcases e with e | e; have := HPG.out; omega; exact HFR0.out e)).trans HG0.out
  have HFR1 : Hid (v1.ownBlock ≠ some g) := fun e => by rcases HC1.out.2 g e with e | e; exact HFR0.out e; omega
  obtain ⟨⟨k0, k1, k2, k3, k4, k5⟩, _⟩ := blk6 HG1.out
  rw [← HCN.out] at k0
  have hgl1 := block_lt HG1.out
  have HL1 : Hid ((seqB S (intB f)).1.length ≤ S.1.length + 4) := by
    have h1 := seqB_len S (intB f)
    have h2 : (intB f).1.length = 4 := putL_length _ _
    show _ ≤ _
    omega
  go_wp2_with fail
  refine (wnumber HW1.out cnt hc.1 (by omega) (by have := HBD.out; have := HL1.out; omega)).mono ?_
  rintro r w2 ⟨rfl, v2, HW2, HC2⟩
  have HG2 : Hid (w2.heap[g]? = some (.cells #[.int .i64 T.1, .slice ca cl cc, .bool T.2.2.1, .int .i64 T.2.2.2.1.1, .slice x lx cx, .slice ra rl rc] 29 (0, 0))) := (HC2.out.1.block g hgl1 (fun e => by rcases e with e | e; have := HPG.out; omega; exact HFR1.out e)).trans HG1.out
  have HFR2 : Hid (v2.ownBlock ≠ some g) := fun e => by rcases HC2.out.2 g e with e | e; exact HFR1.out e; omega
  obtain ⟨⟨k0, k1, k2, k3, k4, k5⟩, _⟩ := blk6 HG2.out
  have hgl2 := block_lt HG2.out
  have HCA : Hid (Chg p v v2 w0 w2) := HC1.out.trans HC2.out
  have HV2 : Hid (TbV (n + 1) (fun z => z < p) w2 T ca cl cc x lx cx ra rl rc) := HV0.out.apart HCA.out.1 (fun z _ hz e => by rcases e with e | e; omega; have := (HW0.out.far z e).1; omega)
  have HT2 : Hid (Tab w2) := HT0.out.kept HCA.out.1 (fun e => by rcases e with e | e; omega; have := (HW0.out.far 0 e).1; omega)
  have HCB : Hid (Chg p v v2 w w2) := HC0.out.trans HCA.out
  obtain ⟨S2, hS2⟩ : ∃ S2, S2 = seqB (seqB S (intB f)) (intB cnt) := ⟨_, rfl⟩
  have HS2 : Hid (S2 = seqB (seqB S (intB f)) (intB cnt)) := hS2
  have HL2 : Hid (S2.1.length ≤ S.1.length + 8) := by
    have h1 := seqB_len (seqB S (intB f)) (intB cnt)
    have h2 : (intB cnt).1.length = 4 := putL_length _ _
    have h3 := HL1.out
    show _ ≤ _
    rw [hS2]
    omega
  rw [← hS2] at HW2
  clear hS2 HG0 HG1 HW0 HW1 HT0 HV0 HC0 HC1 HC2 HCA
  obtain ⟨mo, hmo⟩ : ∃ mo, mo = T.2.2.1 := ⟨_, rfl⟩
  have HMO : Hid (mo = T.2.2.1) := hmo
  rw [← hmo] at k2
  cases mo with
  | true =>
    clear hmo
    go_wp2_with fail
    refine (value_any T.2.2.2.1 _ HV2.out.2.1.1 HSM.out rfl).mono ?_
    rintro e wa ⟨a3, cp3, rfl, HP3, hBa⟩
    have HBa : Hid (Below w2.heap.size w2 wa) := hBa
    have hga := (hBa.block g hgl2).trans HG2.out
    obtain ⟨⟨k0, k1, k2, k3, k4, k5⟩, _⟩ := blk6 hga
    have hgla := block_lt hga
    clear hBa hga
    go_wp2_with fail
    refine (wpart_new HW2.out HBa.out HP3.out (by have := valueB_len T.2.2.2.1; have := HBD.out; have := HL2.out; unfold valW at *; omega) _).mono ?_
    rintro r w3 ⟨rfl, v3, HW3, HC3⟩
    rw [BE_eta] at HW3
    have HG3 := (HC3.out.1.block g hgl2 (fun e => by rcases e with e | e; have := HPG.out; omega; exact HFR2.out e)).trans HG2.out
    obtain ⟨⟨k0, k1, k2, k3, k4, k5⟩, _⟩ := blk6 HG3
    have hgl3 := block_lt HG3
    have HV3 : Hid (TbV (n + 1) (fun z => z < p) w3 T ca cl cc x lx cx ra rl rc) := HV2.out.apart HC3.out.1 (fun z _ hz e => by rcases e with e | e; omega; have := (HW2.out.far z e).1; omega)
    have HT3 : Hid (Tab w3) := HT2.out.kept HC3.out.1 (fun e => by rcases e with e | e; omega; have := (HW2.out.far 0 e).1; omega)
    have HCC : Hid (Chg p v v3 w w3) := HCB.out.trans HC3.out
    have HBN : Hid ((seqB S2 (valueB T.2.2.2.1)).1.length + (T.2.1.map (colW n)).sum ≤ 140737488355328) := by
      have h1 := seqB_len S2 (valueB T.2.2.2.1)
      have h2 := valueB_len T.2.2.2.1
      have h3 := HBD.out
      have h4 := HL2.out
      unfold valW at h3
      show _ ≤ _
      omega
    have HRN : Hid (R = seqB (seqB S2 (valueB T.2.2.2.1)) (colsFrom n b1 0 T.2.1)) := by
      show _ = _
      rw [HRE.out, HS2.out, HB1.out, headB, HCN.out, ← HMO.out]
      simp only [seqB_assoc, optB, if_true]
    clear HG3
    go_wp2_with fail
    refine (wcolumns HW3.out HT3.out hp0 HV3.out.1 b1 HBN.out HRN.out).mono ?_
    rintro r w4 ⟨rfl, v4, HW4, HC4⟩
    go_wp2_with fail
    go_end0
    exact ⟨rfl, v4, HW4, HCC.out.trans HC4.out⟩
  | false =>
    clear hmo
    have HBN : Hid (S2.1.length + (T.2.1.map (colW n)).sum ≤ 140737488355328) := by
      have h3 := HBD.out
      have h4 := HL2.out
      show _ ≤ _
      omega
    have HRN : Hid (R = seqB S2 (colsFrom n b1 0 T.2.1)) := by
      show _ = _
      have hN : Nrm S2 := HW2.out.nrm
      rw [HRE.out, HS2.out, HB1.out, headB, HCN.out, ← HMO.out]
      simp only [seqB_assoc, optB, unitB]
      rw [if_neg (by decide)]
      congr 3
      cases T.2.1 with
      | nil => rfl
      | cons c r => exact unit_seqB (nrm_seq _ _)
    go_wp2_with fail
    refine (wcolumns HW2.out HT2.out hp0 HV2.out.1 b1 HBN.out HRN.out).mono ?_
    rintro r w4 ⟨rfl, v4, HW4, HC4⟩
    go_wp2_with fail
    go_end0
    exact ⟨rfl, v4, HW4, HCB.out.trans HC4.out⟩

end Go.Proofs.YtnapeecmlkkolaaDoor
