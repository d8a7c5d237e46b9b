/-
  Put: the bytes of columns and rows.
-/
import Derived.Test.YtnapeecmlkkolaaDoorAg
import Derived.Deep.DeepCutAuto
import Derived.Deep.RegionHeld3
import Derived.Deep.RegionWith
namespace Go.Proofs.YtnapeecmlkkolaaDoor
open Go.RowKit
set_option maxRecDepth 100000
set_option linter.unusedVariables false
set_option linter.unusedSimpArgs false

/-- The bytes, and the error. -/
def putT (n : Nat) (gl : Bool) (T : Tb) : BE := if (mayT T && (!gl || oneB T.2.1)) = true then seqB (headB n (flagsN gl T.2.1.length T.2.2.1 T.1) T) (rowsB T.2.2.2.2) else ([], 1)

theorem flagsN_range (gl : Bool) (cl : Nat) (m : Bool) (n : Int) : 0 ≤ flagsN gl cl m n ∧ flagsN gl cl m n ≤ 7 := by
  unfold flagsN
  split <;> split <;> split <;> omega
theorem mayT_count {T : Tb} (h : mayT T = true) : 0 ≤ T.1 ∧ T.1 ≤ 4096 := by
  unfold mayT at h
  simp only [Bool.and_eq_true, decide_eq_true_eq] at h
  exact h.1.1
theorem intB_len (x : Int) : (intB x).1.length = 4 := putL_length _ _
theorem optB_len (b : Bool) (B : BE) : (optB b B).1.length ≤ B.1.length := by
  unfold optB unitB
  split <;> simp
theorem colB_len (n : Nat) (full : Bool) (c : Col) : (colB n full c).1.length ≤ colW n c := by
  unfold colB colW
  have h1 := seqB_len (optB full (seqB (textB c.1) (textB c.2.1))) (seqB (textB c.2.2.1) (putR n c.2.2.2))
  have h2 := optB_len full (seqB (textB c.1) (textB c.2.1))
  have h3 := seqB_len (textB c.1) (textB c.2.1)
  have h4 := seqB_len (textB c.2.2.1) (putR n c.2.2.2)
  have h5 := textB_len c.1
  have h6 := textB_len c.2.1
  have h7 := textB_len c.2.2.1
  have h8 := putR_len (n := n) (t := c.2.2.2)
  omega
theorem colsFrom_len (n : Nat) (g : Bool) : ∀ (l : List Col) (k : Nat), (colsFrom n g k l).1.length ≤ (l.map (colW n)).sum
  | [], k => by simp [colsFrom, unitB]
  | c :: r, k => by
    rw [colsFrom, List.map_cons, List.sum_cons]
    have h1 := seqB_len (colB n (decide (k = 0) || !g) c) (colsFrom n g (k + 1) r)
    have h2 := colB_len n (decide (k = 0) || !g) c
    have h3 := colsFrom_len n g r (k + 1)
    omega
theorem goQ_len {α : Type} {f : α → BE} {W : α → Nat} (h : ∀ x, (f x).1.length ≤ W x) : ∀ l : List α, (goQ f l).1.length ≤ (l.map W).sum
  | [] => by simp [goQ]
  | x :: r => by
    rw [goQ, List.map_cons, List.sum_cons]
    have h1 := seqB_len (f x) (goQ f r)
    have h2 := h x
    have h3 := goQ_len h r
    omega
theorem rowB_len (r : List Vl) : (rowB r).1.length ≤ rowW r := goQ_len valueB_len r
theorem headB_len (n : Nat) (f : Int) (T : Tb) : (headB n f T).1.length ≤ 8 + (valW T.2.2.2.1 + (T.2.1.map (colW n)).sum) := by
  unfold headB
  have h1 := seqB_len (intB f) (seqB (intB T.1) (seqB (optB T.2.2.1 (valueB T.2.2.2.1)) (colsFrom n (bitX f 1) 0 T.2.1)))
  have h2 := seqB_len (intB T.1) (seqB (optB T.2.2.1 (valueB T.2.2.2.1)) (colsFrom n (bitX f 1) 0 T.2.1))
  have h3 := seqB_len (optB T.2.2.1 (valueB T.2.2.2.1)) (colsFrom n (bitX f 1) 0 T.2.1)
  have h4 := optB_len T.2.2.1 (valueB T.2.2.2.1)
  have h5 := valueB_len T.2.2.2.1
  have h6 := colsFrom_len n (bitX f 1) T.2.1 0
  have h7 := intB_len f
  have h8 := intB_len T.1
  unfold valW
  omega
theorem putT_nrm (n : Nat) (gl : Bool) (T : Tb) : Nrm (putT n gl T) := by
  unfold putT
  split
  · exact nrm_seq _ _
  · intro _; rfl

/-- What Put answers. -/
def PutRes (w : World) (B : BE) (e : Ending) (w' : World) : Prop := ∃ v, e = .returned (.tuple #[v, .int .i64 B.2]) ∧ Hid (OwnB w' w.heap.size v B.1.length B.1) ∧ Hid (Rng B.1) ∧ Hid (Below w.heap.size w w')

theorem ownB_nil (w : World) (base : Nat) : OwnB w base (.slice none 0 0) 0 [] := World.ownsRow_nil _ _ _ _

set_option maxHeartbeats 4000000 in
theorem put_any {n : Nat} {F : Nat → Prop} {w : World} (hT : Tab w) {cnt : Int} {L : List Col} {mo : Bool} {vk : Int} {vb : ByteArray} {Q : List (List Vl)} {ca : Option Addr} {cl cc : Nat} {x : Option Addr} {lx cx : Nat} {ra : Option Addr} {rl rc : Nat}
    (hV : TbV (n + 1) F w ((cnt, L, mo, (vk, vb), Q) : Tb) ca cl cc x lx cx ra rl rc) (hi : -9223372036854775808 ≤ cnt ∧ cnt ≤ 9223372036854775807) (gl : Bool) (hsm : vb.size ≤ 140737488351232) (hsr : ∀ r ∈ Q, ∀ V ∈ r, V.2.size ≤ 140737488351232)
    (hbd : tabW n ((cnt, L, mo, (vk, vb), Q) : Tb) ≤ 140737488355328) {B : BE} (hB : B = putT n gl ((cnt, L, mo, (vk, vb), Q) : Tb)) :
    Calls Tryd.prog 17 #[.agg #[.int .i64 cnt, .slice ca cl cc, .bool mo, .int .i64 vk, .slice x lx cx, .slice ra rl rc], .bool gl] w fun e w' => PutRes w B e w' := by
  obtain ⟨g, hg⟩ : ∃ g, g = w.heap.size := ⟨_, rfl⟩
  have HGE : Hid (w.heap.size = g) := hg.symm
  obtain ⟨w0, hw0⟩ : ∃ w0, w0 = w.alloc (.cells #[.int .i64 cnt, .slice ca cl cc, .bool mo, .int .i64 vk, .slice x lx cx, .slice ra rl rc] 29) := ⟨_, rfl⟩
  have HW0E : Hid (w.alloc (.cells #[.int .i64 cnt, .slice ca cl cc, .bool mo, .int .i64 vk, .slice x lx cx, .slice ra rl rc] 29) = w0) := hw0.symm
  have hB0 : Below w.heap.size w w0 := by rw [hw0]; exact below_one _ _
  have HB0 : Hid (Below w.heap.size w w0) := hB0
  have HG0 : Hid (w0.heap[g]? = some (.cells #[.int .i64 cnt, .slice ca cl cc, .bool mo, .int .i64 vk, .slice x lx cx, .slice ra rl rc] 29 (0, 0))) := by rw [hw0, hg]; exact heap_alloc_new w _
  have HT0 : Hid (Tab w0) := hT.old hB0
  have HV0 : Hid (TbV (n + 1) (fun z => z < g) w0 ((cnt, L, mo, (vk, vb), Q) : Tb) ca cl cc x lx cx ra rl rc) := (hV.kept (F' := fun z => z < g) (fun _ _ _ => rfl) (Nat.le_refl _) (fun k hk _ => by omega)).old hB0
  have HCL : Hid (L.length = cl) := hV.1.1
  have HBE : Hid (B = putT n gl ((cnt, L, mo, (vk, vb), Q) : Tb)) := hB
  have HBD : Hid (tabW n ((cnt, L, mo, (vk, vb), Q) : Tb) ≤ 140737488355328) := hbd
  have HSM : Hid (vb.size ≤ 140737488351232) := hsm
  have HSR : Hid (∀ r ∈ Q, ∀ V ∈ r, V.2.size ≤ 140737488351232) := hsr
  have hg0 : 0 < g := by rw [hg]; exact hT.lt
  obtain ⟨⟨k0, k1, k2, k3, k4, k5⟩, _⟩ := blk6 HG0.out
  have hgl := block_lt HG0.out
  obtain ⟨d1, hd1⟩ : ∃ d, d = mayT ((cnt, L, mo, (vk, vb), Q) : Tb) := ⟨_, rfl⟩
  have HD1 : Hid (d1 = mayT ((cnt, L, mo, (vk, vb), Q) : Tb)) := hd1
  obtain ⟨d2, hd2⟩ : ∃ d, d = oneB L := ⟨_, rfl⟩
  have HD2 : Hid (d2 = oneB L) := hd2
  clear hw0 hg hB0 hT hV hbd hsm hsr hB hd1 hd2
  cases d1 with
  | false =>
    have HE : Hid (B = ([], 1)) := by show _ = _; rw [HBE.out, putT, ← HD1.out]; rfl
    go_enter Tryd.func17, Tryd.ntmps17
    go_upto_region 1 with fail
    (try rw [HGE.out])
    rw [HW0E.out]
    clear HW0E
    go_wp2_with fail
    refine (mayTe_any HV0.out hi HD1.out).mono ?_
    rintro e w1 ⟨rfl, HB1⟩
    go_wp2_with fail
    go_ret2
    exact ⟨_, by rw [HE.out]; rfl, by rw [HE.out]; exact ownB_nil _ _, by rw [HE.out]; exact rng_nil, HB0.out.trans (HB1.out.mono HB0.out.size)⟩
  | true =>
    have hcnt := (mayT_count HD1.out.symm : 0 ≤ cnt ∧ cnt ≤ 4096)
    by_cases hbad : gl = true ∧ d2 = false
    · obtain ⟨rfl, rfl⟩ := hbad
      have HE : Hid (B = ([], 1)) := by show _ = _; rw [HBE.out, putT, ← HD1.out, ← HD2.out]; rfl
      go_enter Tryd.func17, Tryd.ntmps17
      go_upto_region 1 with fail
      (try rw [HGE.out])
      rw [HW0E.out]
      clear HW0E
      go_wp2_with fail
      refine (mayTe_any HV0.out hi HD1.out).mono ?_
      rintro e w1 ⟨rfl, HB1⟩
      have HV1 : Hid (TbV (n + 1) (fun z => z < g) w1 ((cnt, L, mo, (vk, vb), Q) : Tb) ca cl cc x lx cx ra rl rc) := HV0.out.old HB1.out
      have hg1 := (HB1.out.block g hgl).trans HG0.out
      obtain ⟨⟨k0, k1, k2, k3, k4, k5⟩, _⟩ := blk6 hg1
      have hgl1 := block_lt hg1
      clear hg1
      go_wp2_with fail
      refine (oneTable_any HV1.out.1 HD2.out).mono ?_
      rintro e w2 ⟨rfl, HB2⟩
      go_wp2_with fail
      go_ret2
      exact ⟨_, by rw [HE.out]; rfl, by rw [HE.out]; exact ownB_nil _ _, by rw [HE.out]; exact rng_nil, HB0.out.trans ((HB1.out.trans (HB2.out.mono HB1.out.size)).mono HB0.out.size)⟩
    · obtain ⟨f, hf⟩ : ∃ f, f = flagsN gl cl mo cnt := ⟨_, rfl⟩
      have HF : Hid (f = flagsN gl cl mo cnt) := hf
      have hfr := flagsN_range gl cl mo cnt
      rw [← hf] at hfr
      have HE : Hid (B = seqB (headB n f ((cnt, L, mo, (vk, vb), Q) : Tb)) (rowsB Q)) := by
        show _ = _
        rw [HBE.out, putT, ← HD1.out, ← HD2.out, HCL.out, hf]
        rw [if_pos (by cases gl <;> cases d2 <;> simp_all)]
      have hcon : ∀ (w1 : World), Below w0.heap.size w0 w1 → Calls Tryd.prog 33 #[.agg #[.int .i64 cnt, .slice ca cl cc, .bool mo, .int .i64 vk, .slice x lx cx, .slice ra rl rc], .bool gl] w1 fun e w' => e = .returned (.int .i64 f) ∧ Hid (Below w1.heap.size w1 w') := fun w1 _ => flagsOf_any gl HF.out
      clear hf hcon
      have main : ∀ (w1 : World), Below w0.heap.size w0 w1 → True := fun _ _ => trivial
      clear main
      have hgl2 : gl = false ∨ d2 = true := by cases gl <;> cases d2 <;> simp_all
      clear hbad
      cases gl with
      | false =>
        go_enter Tryd.func17, Tryd.ntmps17
        go_upto_region 1 with fail
        (try rw [HGE.out])
        rw [HW0E.out]
        clear HW0E
        go_wp2_with fail
        refine (mayTe_any HV0.out hi HD1.out).mono ?_
        rintro e w1 ⟨rfl, HB1⟩
        have HV1 : Hid (TbV (n + 1) (fun z => z < g) w1 ((cnt, L, mo, (vk, vb), Q) : Tb) ca cl cc x lx cx ra rl rc) := HV0.out.old HB1.out
        have HT1 : Hid (Tab w1) := HT0.out.old HB1.out
        have hg1 := (HB1.out.block g hgl).trans HG0.out
        have HG1 : Hid (w1.heap[g]? = some (.cells #[.int .i64 cnt, .slice ca cl cc, .bool mo, .int .i64 vk, .slice x lx cx, .slice ra rl rc] 29 (0, 0))) := hg1
        have HBw1 : Hid (Below w.heap.size w w1) := HB0.out.trans (HB1.out.mono HB0.out.size)
        obtain ⟨⟨k0, k1, k2, k3, k4, k5⟩, _⟩ := blk6 hg1
        have hgl1 := block_lt hg1
        clear hg1
        go_upto_region 4 with fail
        obtain ⟨w2, hw2⟩ : ∃ w2, w2 = w1.alloc (.cells #[.slice none 0 0, .int .i64 0] 88) := ⟨_, rfl⟩
        obtain ⟨p, hp⟩ : ∃ p, p = w1.heap.size := ⟨_, rfl⟩
        have HPE : Hid (w1.heap.size = p) := hp.symm
        have HW2E : Hid (w1.alloc (.cells #[.slice none 0 0, .int .i64 0] 88) = w2) := hw2.symm
        have hB2 : Below w1.heap.size w1 w2 := by rw [hw2]; exact below_one _ _
        have HWR : Hid (Wr w2 p (.slice none 0 0) ([], 0)) := ⟨by rw [hw2, hp]; exact heap_alloc_new w1 _, fun k hk => by simp [Value.ownBlock] at hk, ⟨_, _, _, rfl⟩, fun _ => ownB_nil _ _, fun e => absurd rfl e, rng_nil⟩
        have HV2 : Hid (TbV (n + 1) (fun z => z < p) w2 ((cnt, L, mo, (vk, vb), Q) : Tb) ca cl cc x lx cx ra rl rc) := (HV1.out.old hB2).kept (fun _ _ _ => rfl) (Nat.le_refl _) (fun z _ hz => by omega)
        have HT2 : Hid (Tab w2) := HT1.out.old hB2
        have hg2 := (hB2.block g hgl1).trans HG1.out
        have HG2 : Hid (w2.heap[g]? = some (.cells #[.int .i64 cnt, .slice ca cl cc, .bool mo, .int .i64 vk, .slice x lx cx, .slice ra rl rc] 29 (0, 0))) := hg2
        have HBw2 : Hid (Below w.heap.size w w2) := HBw1.out.trans (hB2.mono HBw1.out.size)
        obtain ⟨⟨k0, k1, k2, k3, k4, k5⟩, _⟩ := blk6 hg2
        have hgl3 := block_lt hg2
        have hpg : g < p := by omega
        obtain ⟨p0, p1, _, _⟩ := two_cells HWR.out.blk
        have hlp := HWR.out.lt
        rw [HW2E.out]
        (try rw [HPE.out])
        clear hw2 hB2 hg2 HW2E hp
        go_cut [] (fun wc => ∃ v', Hid (Wr wc p v' (headB n f ((cnt, L, mo, (vk, vb), Q) : Tb))) ∧ Hid (Chg p (.slice none 0 0) v' w2 wc))
        case first =>
          have HKP : Hid (∀ W, Below p w2 W → W.cell? ⟨g, 0, none⟩ = some (.int .i64 cnt) ∧ W.cell? ⟨g, 1, none⟩ = some (.slice ca cl cc) ∧ W.cell? ⟨g, 2, none⟩ = some (.bool mo) ∧ W.cell? ⟨g, 3, none⟩ = some (.int .i64 vk) ∧ W.cell? ⟨g, 4, none⟩ = some (.slice x lx cx) ∧ W.cell? ⟨g, 5, none⟩ = some (.slice ra rl rc) ∧ Below p w2 W) := by
            intro W hW
            obtain ⟨⟨j0, j1, j2, j3, j4, j5⟩, _⟩ := blk6 ((hW.block g hpg).trans HG2.out)
            exact ⟨j0, j1, j2, j3, j4, j5, hW⟩
          have HWT : Hid (∀ W, Below w2.heap.size w2 W → Calls Tryd.prog 32 #[.pointer (some ⟨p, 0, none⟩), .agg #[.int .i64 cnt, .slice ca cl cc, .bool mo, .int .i64 vk, .slice x lx cx, .slice ra rl rc], .int .i64 f] W fun r w' => r = .returned (.tuple #[]) ∧ ∃ v', Hid (Wr w' p v' (headB n f ((cnt, L, mo, (vk, vb), Q) : Tb))) ∧ Hid (Chg p (.slice none 0 0) v' w2 w')) := by
            intro W hW
            refine (wtable (n := n) (R := headB n f ((cnt, L, mo, (vk, vb), Q) : Tb)) (HWR.out.new hW) (HT2.out.old hW) (by omega) (HV2.out.old hW) hcnt hfr HSM.out (by have h9 : 16 + (valW (vk, vb) + ((L.map (colW n)).sum + (Q.map rowW).sum)) ≤ 140737488355328 := HBD.out; show 0 + (12 + (valW (vk, vb) + (L.map (colW n)).sum)) ≤ 140737488355328; omega) (unit_seqB (nrm_seq _ _)).symm).mono ?_
            rintro r w6 ⟨rfl, v6, HW6, HC6⟩
            exact ⟨rfl, v6, HW6, (chg_new hW).trans HC6.out⟩
          have HFT : Hid (∀ W, Calls Tryd.prog 33 #[.agg #[.int .i64 cnt, .slice ca cl cc, .bool mo, .int .i64 vk, .slice x lx cx, .slice ra rl rc], .bool false] W fun e w' => e = .returned (.int .i64 f) ∧ Hid (Below W.heap.size W w')) := fun W => flagsOf_any false HF.out
          clear HWR HT2 HV2 HBE HBD HSM HSR HCL HD1 HD2 HB0 HT0 HV0 HG0 HE HV1 HT1 HG1 HBw1 HBw2 hi hfr hcnt hgl2
          obtain ⟨j0, j1, j2, j3, j4, j5, j6⟩ := HKP.out w2 (Below.refl _ _)
          go_region_held3 (fun W => W.cell? ⟨g, 0, none⟩ = some (.int .i64 cnt) ∧ W.cell? ⟨g, 1, none⟩ = some (.slice ca cl cc) ∧ W.cell? ⟨g, 2, none⟩ = some (.bool mo) ∧ W.cell? ⟨g, 3, none⟩ = some (.int .i64 vk) ∧ W.cell? ⟨g, 4, none⟩ = some (.slice x lx cx) ∧ W.cell? ⟨g, 5, none⟩ = some (.slice ra rl rc) ∧ Below p w2 W) (first | (refine HKP.out _ (by repeat' (first | assumption | exact Below.refl _ _ | exact Below.size (by assumption) | exact Nat.le_refl _ | refine Below.drew ?_ | refine Below.alloc ?_ ?_ _))))
            (first
              | (go_at_call 32; refine (HWT.out _ hB5).mono ?_; rintro r w6 ⟨rfl, v6, HW6, HZ6⟩; have hB6 : Below p w2 w6 := HZ6.out.1.below (by omega) (fun k hk e => by rcases e with e | e; omega; simp [Value.ownBlock] at e))
              | (go_at_call 33; refine (HFT.out _).mono ?_; rintro e w5 ⟨rfl, HB5⟩; have hB5 : Below w2.heap.size w2 w5 := Below.trans (by repeat' (first | assumption | exact Below.refl _ _ | exact Below.size (by assumption) | exact Nat.le_refl _ | refine Below.drew ?_ | refine Below.alloc ?_ ?_ _)) (HB5.out.mono (by simp)); have hB5p : Below p w2 w5 := hB5.mono (by omega)))
          go_wp2_with fail
          go_meet
          exact ⟨v6, HW6, HZ6⟩
        case rest =>
          obtain ⟨v6, HW6, HZ6⟩ := hcut
          have hKp : Kept (fun k => k = p) w2 wc := ⟨HZ6.out.1.os, HZ6.out.1.tape, HZ6.out.1.output, HZ6.out.1.size, fun k h1 h2 => HZ6.out.1.block k h1 (fun e => by rcases e with e | e; exact h2 e; simp [Value.ownBlock] at e)⟩
          have HG6 : Hid (wc.heap[g]? = some (.cells #[.int .i64 cnt, .slice ca cl cc, .bool mo, .int .i64 vk, .slice x lx cx, .slice ra rl rc] 29 (0, 0))) := (hKp.block g hgl3 (by omega)).trans HG2.out
          obtain ⟨⟨k0, k1, k2, k3, k4, k5⟩, _⟩ := blk6 HG6.out
          have hgl6 := block_lt HG6.out
          have HV6 : Hid (Sees 1 (fun z => z < p) (VRowS (fun z => z < p) wc) wc ra rl rc Q) := HV2.out.2.2.kept2 stays_rowS hKp (fun z _ hz e => by omega)
          have HK6 : Hid (Kept (fun k => k = p) w2 wc) := hKp
          have HLH : Hid ((headB n f ((cnt, L, mo, (vk, vb), Q) : Tb)).1.length + 4 + (Q.map rowW).sum ≤ 140737488355328) := by
            have h1 : (headB n f ((cnt, L, mo, (vk, vb), Q) : Tb)).1.length ≤ 8 + (valW (vk, vb) + (L.map (colW n)).sum) := headB_len n f ((cnt, L, mo, (vk, vb), Q) : Tb)
            have h9 : 16 + (valW (vk, vb) + ((L.map (colW n)).sum + (Q.map rowW).sum)) ≤ 140737488355328 := HBD.out
            show _ ≤ _
            omega
          clear hKp
          go_wp2_with fail
          refine (wrows HW6.out HV6.out HSR.out HLH.out HE.out).mono ?_
          rintro r w7 ⟨rfl, v7, HW7, HC7⟩
          obtain ⟨p0, p1, _, _⟩ := two_cells HW7.out.blk
          have hlp7 := HW7.out.lt
          have HB7 : Hid (Below w.heap.size w w7) := by
            have h1 : Kept (fun k => p ≤ k) w2 w7 := (HK6.out.wider (fun k e => by omega)).trans HC7.out.1 (fun i hi e => by rcases e with e | e; omega; have := (HW6.out.far i e).1; omega)
            exact HBw2.out.trans (h1.below (B := w.heap.size) (by have := HBw2.out.size; omega) (fun k hk e => by have := HBw1.out.size; have := HPE.out; omega))
          by_cases hE : B.2 = 0
          · have HE0 : Hid (B.2 = 0) := hE
            rw [hE] at p1
            clear hE
            go_wp2_with fail
            go_ret2
            refine ⟨v7, by rw [HE0.out]; rfl, (HW7.out.own HE0.out).mono (by have := HBw1.out.size; have := HPE.out; omega), HW7.out.rng, HB7⟩
          · have t : (B.2 != 0) = true := by simpa using hE
            have hX : B.1 = [] := HW7.out.nrm hE
            have HX : Hid (B.1 = []) := hX
            clear hE hX
            go_wp2_with fail
            go_quiet (fail)
            go_wp2_with fail
            go_ret2
            exact ⟨_, rfl, by rw [HX.out]; exact ownB_nil _ _, by rw [HX.out]; exact rng_nil, below_drewN HB7.out _⟩
      | true =>
        obtain rfl : d2 = true := by rcases hgl2 with e | e; cases e; exact e
        go_enter Tryd.func17, Tryd.ntmps17
        go_upto_region 1 with fail
        (try rw [HGE.out])
        rw [HW0E.out]
        clear HW0E
        go_wp2_with fail
        refine (mayTe_any HV0.out hi HD1.out).mono ?_
        rintro e wm ⟨rfl, HBm⟩
        have HVm : Hid (TbV (n + 1) (fun z => z < g) wm ((cnt, L, mo, (vk, vb), Q) : Tb) ca cl cc x lx cx ra rl rc) := HV0.out.old HBm.out
        have hgm := (HBm.out.block g hgl).trans HG0.out
        have HGm : Hid (wm.heap[g]? = some (.cells #[.int .i64 cnt, .slice ca cl cc, .bool mo, .int .i64 vk, .slice x lx cx, .slice ra rl rc] 29 (0, 0))) := hgm
        obtain ⟨⟨k0, k1, k2, k3, k4, k5⟩, _⟩ := blk6 hgm
        have hglm := block_lt hgm
        clear hgm
        go_wp2_with fail
        refine (oneTable_any HVm.out.1 HD2.out).mono ?_
        rintro e w1 ⟨rfl, HB1m⟩
        have HB1 : Hid (Below w0.heap.size w0 w1) := HBm.out.trans (HB1m.out.mono HBm.out.size)
        have HV1 : Hid (TbV (n + 1) (fun z => z < g) w1 ((cnt, L, mo, (vk, vb), Q) : Tb) ca cl cc x lx cx ra rl rc) := HV0.out.old HB1.out
        have HT1 : Hid (Tab w1) := HT0.out.old HB1.out
        have hg1 := (HB1.out.block g hgl).trans HG0.out
        have HG1 : Hid (w1.heap[g]? = some (.cells #[.int .i64 cnt, .slice ca cl cc, .bool mo, .int .i64 vk, .slice x lx cx, .slice ra rl rc] 29 (0, 0))) := hg1
        have HBw1 : Hid (Below w.heap.size w w1) := HB0.out.trans (HB1.out.mono HB0.out.size)
        obtain ⟨⟨k0, k1, k2, k3, k4, k5⟩, _⟩ := blk6 hg1
        have hgl1 := block_lt hg1
        clear hg1 HVm HGm HB1m HBm hglm
        go_upto_region 4 with fail
        obtain ⟨w2, hw2⟩ : ∃ w2, w2 = w1.alloc (.cells #[.slice none 0 0, .int .i64 0] 88) := ⟨_, rfl⟩
        obtain ⟨p, hp⟩ : ∃ p, p = w1.heap.size := ⟨_, rfl⟩
        have HPE : Hid (w1.heap.size = p) := hp.symm
        have HW2E : Hid (w1.alloc (.cells #[.slice none 0 0, .int .i64 0] 88) = w2) := hw2.symm
        have hB2 : Below w1.heap.size w1 w2 := by rw [hw2]; exact below_one _ _
        have HWR : Hid (Wr w2 p (.slice none 0 0) ([], 0)) := ⟨by rw [hw2, hp]; exact heap_alloc_new w1 _, fun k hk => by simp [Value.ownBlock] at hk, ⟨_, _, _, rfl⟩, fun _ => ownB_nil _ _, fun e => absurd rfl e, rng_nil⟩
        have HV2 : Hid (TbV (n + 1) (fun z => z < p) w2 ((cnt, L, mo, (vk, vb), Q) : Tb) ca cl cc x lx cx ra rl rc) := (HV1.out.old hB2).kept (fun _ _ _ => rfl) (Nat.le_refl _) (fun z _ hz => by omega)
        have HT2 : Hid (Tab w2) := HT1.out.old hB2
        have hg2 := (hB2.block g hgl1).trans HG1.out
        have HG2 : Hid (w2.heap[g]? = some (.cells #[.int .i64 cnt, .slice ca cl cc, .bool mo, .int .i64 vk, .slice x lx cx, .slice ra rl rc] 29 (0, 0))) := hg2
        have HBw2 : Hid (Below w.heap.size w w2) := HBw1.out.trans (hB2.mono HBw1.out.size)
        obtain ⟨⟨k0, k1, k2, k3, k4, k5⟩, _⟩ := blk6 hg2
        have hgl3 := block_lt hg2
        have hpg : g < p := by omega
        obtain ⟨p0, p1, _, _⟩ := two_cells HWR.out.blk
        have hlp := HWR.out.lt
        rw [HW2E.out]
        (try rw [HPE.out])
        clear hw2 hB2 hg2 HW2E hp
        go_cut [] (fun wc => ∃ v', Hid (Wr wc p v' (headB n f ((cnt, L, mo, (vk, vb), Q) : Tb))) ∧ Hid (Chg p (.slice none 0 0) v' w2 wc))
        case first =>
          have HKP : Hid (∀ W, Below p w2 W → W.cell? ⟨g, 0, none⟩ = some (.int .i64 cnt) ∧ W.cell? ⟨g, 1, none⟩ = some (.slice ca cl cc) ∧ W.cell? ⟨g, 2, none⟩ = some (.bool mo) ∧ W.cell? ⟨g, 3, none⟩ = some (.int .i64 vk) ∧ W.cell? ⟨g, 4, none⟩ = some (.slice x lx cx) ∧ W.cell? ⟨g, 5, none⟩ = some (.slice ra rl rc) ∧ Below p w2 W) := by
            intro W hW
            obtain ⟨⟨j0, j1, j2, j3, j4, j5⟩, _⟩ := blk6 ((hW.block g hpg).trans HG2.out)
            exact ⟨j0, j1, j2, j3, j4, j5, hW⟩
          have HWT : Hid (∀ W, Below w2.heap.size w2 W → Calls Tryd.prog 32 #[.pointer (some ⟨p, 0, none⟩), .agg #[.int .i64 cnt, .slice ca cl cc, .bool mo, .int .i64 vk, .slice x lx cx, .slice ra rl rc], .int .i64 f] W fun r w' => r = .returned (.tuple #[]) ∧ ∃ v', Hid (Wr w' p v' (headB n f ((cnt, L, mo, (vk, vb), Q) : Tb))) ∧ Hid (Chg p (.slice none 0 0) v' w2 w')) := by
            intro W hW
            refine (wtable (n := n) (R := headB n f ((cnt, L, mo, (vk, vb), Q) : Tb)) (HWR.out.new hW) (HT2.out.old hW) (by omega) (HV2.out.old hW) hcnt hfr HSM.out (by have h9 : 16 + (valW (vk, vb) + ((L.map (colW n)).sum + (Q.map rowW).sum)) ≤ 140737488355328 := HBD.out; show 0 + (12 + (valW (vk, vb) + (L.map (colW n)).sum)) ≤ 140737488355328; omega) (unit_seqB (nrm_seq _ _)).symm).mono ?_
            rintro r w6 ⟨rfl, v6, HW6, HC6⟩
            exact ⟨rfl, v6, HW6, (chg_new hW).trans HC6.out⟩
          have HFT : Hid (∀ W, Calls Tryd.prog 33 #[.agg #[.int .i64 cnt, .slice ca cl cc, .bool mo, .int .i64 vk, .slice x lx cx, .slice ra rl rc], .bool true] W fun e w' => e = .returned (.int .i64 f) ∧ Hid (Below W.heap.size W w')) := fun W => flagsOf_any true HF.out
          clear HWR HT2 HV2 HBE HBD HSM HSR HCL HD1 HD2 HB0 HT0 HV0 HG0 HE HV1 HT1 HG1 HBw1 HBw2 hi hfr hcnt hgl2
          obtain ⟨j0, j1, j2, j3, j4, j5, j6⟩ := HKP.out w2 (Below.refl _ _)
          go_region_held3 (fun W => W.cell? ⟨g, 0, none⟩ = some (.int .i64 cnt) ∧ W.cell? ⟨g, 1, none⟩ = some (.slice ca cl cc) ∧ W.cell? ⟨g, 2, none⟩ = some (.bool mo) ∧ W.cell? ⟨g, 3, none⟩ = some (.int .i64 vk) ∧ W.cell? ⟨g, 4, none⟩ = some (.slice x lx cx) ∧ W.cell? ⟨g, 5, none⟩ = some (.slice ra rl rc) ∧ Below p w2 W) (first | (refine HKP.out _ (by repeat' (first | assumption | exact Below.refl _ _ | exact Below.size (by assumption) | exact Nat.le_refl _ | refine Below.drew ?_ | refine Below.alloc ?_ ?_ _))))
            (first
              | (go_at_call 32; refine (HWT.out _ hB5).mono ?_; rintro r w6 ⟨rfl, v6, HW6, HZ6⟩; have hB6 : Below p w2 w6 := HZ6.out.1.below (by omega) (fun k hk e => by rcases e with e | e; omega; simp [Value.ownBlock] at e))
              | (go_at_call 33; refine (HFT.out _).mono ?_; rintro e w5 ⟨rfl, HB5⟩; have hB5 : Below w2.heap.size w2 w5 := Below.trans (by repeat' (first | assumption | exact Below.refl _ _ | exact Below.size (by assumption) | exact Nat.le_refl _ | refine Below.drew ?_ | refine Below.alloc ?_ ?_ _)) (HB5.out.mono (by simp)); have hB5p : Below p w2 w5 := hB5.mono (by omega)))
          go_wp2_with fail
          go_meet
          exact ⟨v6, HW6, HZ6⟩
        case rest =>
          obtain ⟨v6, HW6, HZ6⟩ := hcut
          have hKp : Kept (fun k => k = p) w2 wc := ⟨HZ6.out.1.os, HZ6.out.1.tape, HZ6.out.1.output, HZ6.out.1.size, fun k h1 h2 => HZ6.out.1.block k h1 (fun e => by rcases e with e | e; exact h2 e; simp [Value.ownBlock] at e)⟩
          have HG6 : Hid (wc.heap[g]? = some (.cells #[.int .i64 cnt, .slice ca cl cc, .bool mo, .int .i64 vk, .slice x lx cx, .slice ra rl rc] 29 (0, 0))) := (hKp.block g hgl3 (by omega)).trans HG2.out
          obtain ⟨⟨k0, k1, k2, k3, k4, k5⟩, _⟩ := blk6 HG6.out
          have hgl6 := block_lt HG6.out
          have HV6 : Hid (Sees 1 (fun z => z < p) (VRowS (fun z => z < p) wc) wc ra rl rc Q) := HV2.out.2.2.kept2 stays_rowS hKp (fun z _ hz e => by omega)
          have HK6 : Hid (Kept (fun k => k = p) w2 wc) := hKp
          have HLH : Hid ((headB n f ((cnt, L, mo, (vk, vb), Q) : Tb)).1.length + 4 + (Q.map rowW).sum ≤ 140737488355328) := by
            have h1 : (headB n f ((cnt, L, mo, (vk, vb), Q) : Tb)).1.length ≤ 8 + (valW (vk, vb) + (L.map (colW n)).sum) := headB_len n f ((cnt, L, mo, (vk, vb), Q) : Tb)
            have h9 : 16 + (valW (vk, vb) + ((L.map (colW n)).sum + (Q.map rowW).sum)) ≤ 140737488355328 := HBD.out
            show _ ≤ _
            omega
          clear hKp
          go_wp2_with fail
          refine (wrows HW6.out HV6.out HSR.out HLH.out HE.out).mono ?_
          rintro r w7 ⟨rfl, v7, HW7, HC7⟩
          obtain ⟨p0, p1, _, _⟩ := two_cells HW7.out.blk
          have hlp7 := HW7.out.lt
          have HB7 : Hid (Below w.heap.size w w7) := by
            have h1 : Kept (fun k => p ≤ k) w2 w7 := (HK6.out.wider (fun k e => by omega)).trans HC7.out.1 (fun i hi e => by rcases e with e | e; omega; have := (HW6.out.far i e).1; omega)
            exact HBw2.out.trans (h1.below (B := w.heap.size) (by have := HBw2.out.size; omega) (fun k hk e => by have := HBw1.out.size; have := HPE.out; omega))
          by_cases hE : B.2 = 0
          · have HE0 : Hid (B.2 = 0) := hE
            rw [hE] at p1
            clear hE
            go_wp2_with fail
            go_ret2
            refine ⟨v7, by rw [HE0.out]; rfl, (HW7.out.own HE0.out).mono (by have := HBw1.out.size; have := HPE.out; omega), HW7.out.rng, HB7⟩
          · have t : (B.2 != 0) = true := by simpa using hE
            have hX : B.1 = [] := HW7.out.nrm hE
            have HX : Hid (B.1 = []) := hX
            clear hE hX
            go_wp2_with fail
            go_quiet (fail)
            go_wp2_with fail
            go_ret2
            exact ⟨_, rfl, by rw [HX.out]; exact ownB_nil _ _, by rw [HX.out]; exact rng_nil, below_drewN HB7.out _⟩



end Go.Proofs.YtnapeecmlkkolaaDoor
