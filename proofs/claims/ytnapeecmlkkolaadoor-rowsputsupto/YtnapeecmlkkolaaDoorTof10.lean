/-
  tableOf: a table as the document has it.
-/
import Derived.Test.YtnapeecmlkkolaaDoorVd10
import Derived.Test.YtnapeecmlkkolaaDoorTv10
import Derived.Deep.DeepCutAuto
import Derived.Deep.RegionHeld3
import Derived.Deep.AppendLies
import Derived.Deep.RegionLaw
namespace Go.Proofs.YtnapeecmlkkolaaDoor
open Go.RowKit
set_option maxRecDepth 100000
set_option linter.unusedVariables false
set_option linter.unusedSimpArgs false

section
variable {α : Type} {e : TypeId} {size : Nat} {V : Vw α}
/-- An append at a step of a region that draws. -/
theorem step_appI {ops : Array Oper} {o : Oper} {a : Act} {K : Act → World → Prop} {Q : Exit → Act → World → Prop} {E : Prop} {w : World} (hgd : o.guard = none) (s y : Operand) (t : TypeId)
    (ho : o.op = .call { callee := .builtin .append, args := #[s, y], argTypes := #[t, t] })
    {bytes : Nat} (hV : StaysI size V) (hE : Elem t e size bytes) {F : Nat → Prop} {v : Value} {xs : List α} (hs : a.eval s = v) (h : OwnI e size V w F v xs)
    {B c : Nat} {news : List Value} {tt : TypeId} {fr : Nat × Nat} (hy : a.eval y = .slice (some ⟨B, 0, none⟩) 1 c) (hB : w.heap[B]? = some (.cells news.toArray tt fr)) (hn : news.length = size) (h1 : ∀ u ∈ news, u.oneCell' = true) (x : α) (hx : V (fun k => k < w.heap.size ∧ v.ownBlock ≠ some k ∧ F k) w x (fun j => news.getD j default))
    (hF : F w.heap.size) (h63 : xs.length + 1 ≤ maxLen) (hbd : (xs.length + 1) * bytes ≤ 140737488355328)
    (hk : ∀ v' w', OwnI e size V w' F v' (xs ++ [x]) → Kept (fun k => v.ownBlock = some k) w w' → (v'.ownBlock = v.ownBlock ∨ v'.ownBlock = some w.heap.size) → K (a.put o.dst v') w') :
    if Region.wanted o (yielded ops a.tmps) = true then Oper.wp Tryd.prog o a w K Q else E := by
  have hw : Region.wanted o (yielded ops a.tmps) = true := by simp [Region.wanted, hgd]
  rw [if_pos hw]
  obtain ⟨v', w', hr, h2, h3, h4⟩ := appendI_run hV hE h hB hn h1 x hx hF h63 hbd o.type c
  unfold Oper.wp
  simp [execOp, ho, resolve, invoke, builtin, hs, hy, hr, Result.andThen]
  exact hk v' w' h2 h3 h4
end

/-- What tableOf answers. -/
def TofR (m : Nat) (F : Nat → Prop) (w : World) (cnt : Int) (L : List Col) (mo : Bool) (vk : Int) (vb : ByteArray) (Q : List (List Vl)) (e : Ending) (w' : World) : Prop :=
  ∃ (ca : Option Addr) (cc : Nat) (ra : Option Addr) (rc : Nat), e = .returned (.agg #[.int .i64 cnt, .slice ca L.length cc, .bool mo, .int .i64 vk, .string vb, .slice ra Q.length rc]) ∧
    Hid (DtO m w' (fun z => F z ∨ w.heap.size ≤ z) (L, Q) ca L.length cc ra Q.length rc) ∧ Hid (Below w.heap.size w w')

theorem take_next {α : Type} {xs : List α} {k : Nat} {x : α} (hx : xs[k]? = some x) : xs.take (k + 1) = xs.take k ++ [x] := by
  obtain ⟨hk, e⟩ := List.getElem?_eq_some_iff.1 hx
  rw [List.take_succ_eq_append_getElem hk, e]

set_option maxHeartbeats 4000000 in
theorem tof_any {n : Nat} {F : Nat → Prop} {w : World} {cnt : Int} {L : List Col} {mo : Bool} {vk : Int} {vb : ByteArray} {Q : List (List Vl)} {ca : Option Addr} {cl cc : Nat} {x : Option Addr} {lx cx : Nat} {ra : Option Addr} {rl rc : Nat}
    (hv : TbV (n + 1) F w ((cnt, L, mo, (vk, vb), Q) : Tb) ca cl cc x lx cx ra rl rc) (hL : L.length ≤ 4096) (hQ : Q.length ≤ 4096) (hr : ∀ r ∈ Q, r.length ≤ 4096) :
    Calls Tryd.prog 13 #[.agg #[.int .i64 cnt, .slice ca cl cc, .bool mo, .int .i64 vk, .slice x lx cx, .slice ra rl rc]] w fun e w' => TofR (n + 1) F w cnt L mo vk vb Q e w' := by
  obtain ⟨q, hq⟩ : ∃ q, q = w.heap.size := ⟨_, rfl⟩
  have HQE : Hid (w.heap.size = q) := hq.symm
  have hcl : cl = L.length := hv.1.len_eq.symm
  have hrl : rl = Q.length := hv.2.2.len_eq.symm
  have hclm := hv.1.max
  have hrlm := hv.2.2.max
  have HRL : Hid (∀ r ∈ Q, r.length ≤ 4096) := hr
  have hcl4 : cl ≤ 4096 := by omega
  have hrl4 : rl ≤ 4096 := by omega
  have HCL : Hid (cl = L.length ∧ rl = Q.length) := ⟨hcl, hrl⟩
  obtain ⟨w0, hw0⟩ : ∃ w0, w0 = ((w.alloc (.cells #[.int .i64 cnt, .slice ca cl cc, .bool mo, .int .i64 vk, .slice x lx cx, .slice ra rl rc] 29)).alloc (.cells #[.int .i64 0, .slice none 0 0, .bool false, .int .i64 0, .string ⟨#[]⟩, .slice none 0 0] 38)) := ⟨_, rfl⟩
  have HW0 : Hid (((w.alloc (.cells #[.int .i64 cnt, .slice ca cl cc, .bool mo, .int .i64 vk, .slice x lx cx, .slice ra rl rc] 29)).alloc (.cells #[.int .i64 0, .slice none 0 0, .bool false, .int .i64 0, .string ⟨#[]⟩, .slice none 0 0] 38)) = w0) := hw0.symm
  have hB0 : Below w.heap.size w w0 := by rw [hw0]; exact (below_one _ _).alloc (by simp) _
  have hz0 : w0.heap[q]? = some (.cells #[.int .i64 cnt, .slice ca cl cc, .bool mo, .int .i64 vk, .slice x lx cx, .slice ra rl rc] 29 (0, 0)) := by
    rw [hw0, hq]
    exact ((below_one (w.alloc (.cells #[.int .i64 cnt, .slice ca cl cc, .bool mo, .int .i64 vk, .slice x lx cx, .slice ra rl rc] 29)) _).block w.heap.size (by simp)).trans (heap_alloc_new w _)
  have HS0 : Hid (w0.heap.size = q + 2) := by show _ = _; rw [hw0, hq]; simp
  have hr0 : w0.heap[q + 1]? = some (.cells #[.int .i64 0, .slice none 0 0, .bool false, .int .i64 0, .string ⟨#[]⟩, .slice none 0 0] 38 (0, 0)) := by
    rw [hw0, hq]
    have := heap_alloc_new (w.alloc (.cells #[.int .i64 cnt, .slice ca cl cc, .bool mo, .int .i64 vk, .slice x lx cx, .slice ra rl rc] 29)) (.cells #[.int .i64 0, .slice none 0 0, .bool false, .int .i64 0, .string ⟨#[]⟩, .slice none 0 0] 38)
    simpa using this
  have hV0 : TbV (n + 1) (fun z => F z ∧ z < q) w0 ((cnt, L, mo, (vk, vb), Q) : Tb) ca cl cc x lx cx ra rl rc := hv.kept (fun k hk _ => hB0.block k hk) hB0.size (fun k hk hf => ⟨hf, by rw [hq]; exact hk⟩)
  have hcv : (convert 22 9 (.slice x lx cx)).run Tryd.prog w0 = .ok (.string vb) w0 := by
    have h1 := (hV0.2.1.1).conv
    rw [strOfNums_sNums] at h1
    exact h1
  obtain ⟨⟨a0, a1, a2, a3, a4, a5⟩, _⟩ := blk6 hz0
  have HB0 : Hid (Below w.heap.size w w0) := hB0
  have HZ0 : Hid (w0.heap[q]? = some (.cells #[.int .i64 cnt, .slice ca cl cc, .bool mo, .int .i64 vk, .slice x lx cx, .slice ra rl rc] 29 (0, 0))) := hz0
  have HR0 : Hid (w0.heap[q + 1]? = some (.cells #[.int .i64 0, .slice none 0 0, .bool false, .int .i64 0, .string ⟨#[]⟩, .slice none 0 0] 38 (0, 0))) := hr0
  have HV0 : Hid (TbV (n + 1) (fun z => F z ∧ z < q) w0 ((cnt, L, mo, (vk, vb), Q) : Tb) ca cl cc x lx cx ra rl rc) := hV0
  clear hq hw0 hB0 hz0 hr0 hV0 hv hL hQ hr hcl hrl
  go_enter Tryd.func13, Tryd.ntmps13
  go_upto_region 1 with fail
  (try rw [HQE.out])
  rw [HW0.out]
  clear HW0
  go_upto_region 2 with fail
  obtain ⟨g, hg⟩ : ∃ g, g = w0.heap.size := ⟨_, rfl⟩
  have HGE : Hid (w0.heap.size = g) := hg.symm
  obtain ⟨w1, hw1⟩ : ∃ w1, w1 = w0.alloc (.cells #[.int .i64 cnt, .slice none 0 0, .bool mo, .int .i64 vk, .string vb, .slice none 0 0] 38) := ⟨_, rfl⟩
  have HW1 : Hid (w0.alloc (.cells #[.int .i64 cnt, .slice none 0 0, .bool mo, .int .i64 vk, .string vb, .slice none 0 0] 38) = w1) := hw1.symm
  have hB1 : Below w0.heap.size w0 w1 := by rw [hw1]; exact below_one _ _
  have HG1 : Hid (w1.heap[g]? = some (.cells #[.int .i64 cnt, .slice none 0 0, .bool mo, .int .i64 vk, .string vb, .slice none 0 0] 38 (0, 0))) := by rw [hw1, hg]; exact heap_alloc_new w0 _
  have HB1 : Hid (Below g w0 w1) := by rw [hg]; exact hB1
  have HQG : Hid (q + 2 = g) := by show _ = _; rw [hg]; exact HS0.out.symm
  rw [HW1.out]
  (try rw [HGE.out])
  clear HW1 hw1 hg hB1 hcv HS0
  clear a0 a1 a2 a3 a4 a5
  go_wp2_with fail
  go_loopw [4] (fun t wr => ∃ (i : Nat) (v : Value), i ≤ cl ∧ t = .int .i64 i ∧ Hid (wr.heap[g]? = some (.cells #[.int .i64 cnt, v, .bool mo, .int .i64 vk, .string vb, .slice none 0 0] 38 (0, 0))) ∧ Hid (OwnI 83 8 (VCol (n + 1)) wr (fun z => (F z ∧ z < q) ∨ g < z) v (L.take i)) ∧ Hid (∀ k, v.ownBlock = some k → g < k) ∧ Hid (Below g w0 wr)) (fun t _ => cl - (intOf t).toNat)
  case atStart => exact ⟨0, _, by omega, rfl, HG1, ownI_nil _ _ _ _ _, fun k hk => by simp [Value.ownBlock] at hk, HB1⟩
  case round =>
    obtain ⟨i, v, hi, rfl, HGi, HOi, HKi, HBi⟩ := hrel
    have hqg : q < g := by have := HQG.out; omega
    have hzi := (HBi.out.block q hqg).trans HZ0.out
    obtain ⟨⟨a0, a1, a2, a3, a4, a5⟩, _⟩ := blk6 hzi
    have HVi : Hid (TbV (n + 1) (fun z => F z ∧ z < q) wr ((cnt, L, mo, (vk, vb), Q) : Tb) ca cl cc x lx cx ra rl rc) := HV0.out.old (by rw [HGE.out]; exact HBi.out)
    by_cases hlt : i < cl
    · obtain ⟨sS, sT, sN, tyX, b, off, na, nl, nc, ka, kl, kc, hxi, hca, hb, hF, ⟨c0, c1, c2, c3, c4, c5, c6, c7⟩, hsz, hty⟩ := HVi.out.1.col hlt
      subst hca
      have HXI : Hid (L[i]? = some (sS, sT, sN, tyX)) := hxi
      have HTY : Hid (TyAt n (fun z => F z ∧ z < q) wr tyX na nl nc ka kl kc) := hty
      have HSZ : Hid (sS.size ≤ maxLen ∧ sT.size ≤ maxLen ∧ sN.size ≤ maxLen) := hsz
      obtain ⟨⟨g0, g1, g2, g3, g4, g5⟩, f0, f1, f2, f3, f4, f5⟩ := blk6 HGi.out
      have hlg := block_lt HGi.out
      clear hxi hty hsz f0 f2 f3 f4 f5 g0 g2 g3 g4 g5
      have HRW : Hid (VCol (n + 1) (fun z => F z ∧ z < q) wr (sS, sT, sN, tyX) (fun j => ([Value.string sS, Value.string sT, Value.string sN, Value.int .u16 tyX.id, Value.string tyX.space, Value.string tyX.name, Value.slice na nl nc, Value.slice ka kl kc] : List Value).getD j default)) :=
        ⟨⟨rfl, HSZ.out.1⟩, ⟨rfl, HSZ.out.2.1⟩, ⟨rfl, HSZ.out.2.2⟩, na, nl, nc, ka, kl, kc, rfl, rfl, rfl, rfl, rfl, HTY.out⟩
      have hBw : Below wr.heap.size wr ((wr.alloc (.cells #[.string sS, .string sT, .string sN, .int .u16 tyX.id, .string tyX.space, .string tyX.name, .slice na nl nc, .slice ka kl kc] 64)).alloc (.cells #[.string sS, .string sT, .string sN, .int .u16 tyX.id, .string tyX.space, .string tyX.name, .slice na nl nc, .slice ka kl kc] 83)) := (below_one _ _).alloc (by simp) _
      have HBN : Hid (((wr.alloc (.cells #[.string sS, .string sT, .string sN, .int .u16 tyX.id, .string tyX.space, .string tyX.name, .slice na nl nc, .slice ka kl kc] 64)).alloc (.cells #[.string sS, .string sT, .string sN, .int .u16 tyX.id, .string tyX.space, .string tyX.name, .slice na nl nc, .slice ka kl kc] 83)).heap[wr.heap.size + 1]? = some (.cells [Value.string sS, Value.string sT, Value.string sN, Value.int .u16 tyX.id, Value.string tyX.space, Value.string tyX.name, Value.slice na nl nc, Value.slice ka kl kc].toArray 83 (0, 0))) := by
        have hsz : (wr.alloc (.cells #[.string sS, .string sT, .string sN, .int .u16 tyX.id, .string tyX.space, .string tyX.name, .slice na nl nc, .slice ka kl kc] 64)).heap.size = wr.heap.size + 1 := by simp
        rw [← hsz]
        exact heap_alloc_new _ _
      have HON : Hid (OwnI 83 8 (VCol (n + 1)) ((wr.alloc (.cells #[.string sS, .string sT, .string sN, .int .u16 tyX.id, .string tyX.space, .string tyX.name, .slice na nl nc, .slice ka kl kc] 64)).alloc (.cells #[.string sS, .string sT, .string sN, .int .u16 tyX.id, .string tyX.space, .string tyX.name, .slice na nl nc, .slice ka kl kc] 83)) (fun z => (F z ∧ z < q) ∨ g < z) v (L.take i)) := HOi.out.old (stays_col (n + 1)) hBw
      have HXN : Hid (VCol (n + 1) (fun z => z < ((wr.alloc (.cells #[.string sS, .string sT, .string sN, .int .u16 tyX.id, .string tyX.space, .string tyX.name, .slice na nl nc, .slice ka kl kc] 64)).alloc (.cells #[.string sS, .string sT, .string sN, .int .u16 tyX.id, .string tyX.space, .string tyX.name, .slice na nl nc, .slice ka kl kc] 83)).heap.size ∧ v.ownBlock ≠ some z ∧ ((F z ∧ z < q) ∨ g < z)) ((wr.alloc (.cells #[.string sS, .string sT, .string sN, .int .u16 tyX.id, .string tyX.space, .string tyX.name, .slice na nl nc, .slice ka kl kc] 64)).alloc (.cells #[.string sS, .string sT, .string sN, .int .u16 tyX.id, .string tyX.space, .string tyX.name, .slice na nl nc, .slice ka kl kc] 83)) (sS, sT, sN, tyX) (fun j => ([Value.string sS, Value.string sT, Value.string sN, Value.int .u16 tyX.id, Value.string tyX.space, Value.string tyX.name, Value.slice na nl nc, Value.slice ka kl kc] : List Value).getD j default)) :=
        stays_col (n + 1) _ _ wr ((wr.alloc (.cells #[.string sS, .string sT, .string sN, .int .u16 tyX.id, .string tyX.space, .string tyX.name, .slice na nl nc, .slice ka kl kc] 64)).alloc (.cells #[.string sS, .string sT, .string sN, .int .u16 tyX.id, .string tyX.space, .string tyX.name, .slice na nl nc, .slice ka kl kc] 83)) _ _ _ HRW.out (fun _ _ => rfl) (fun z hz _ => hBw.block z hz) hBw.size (fun z hz hf => ⟨Nat.lt_of_lt_of_le hz hBw.size, fun e => by have := HKi.out z e; omega, .inl hf⟩)
      have HFN : Hid ((fun z => (F z ∧ z < q) ∨ g < z) ((wr.alloc (.cells #[.string sS, .string sT, .string sN, .int .u16 tyX.id, .string tyX.space, .string tyX.name, .slice na nl nc, .slice ka kl kc] 64)).alloc (.cells #[.string sS, .string sT, .string sN, .int .u16 tyX.id, .string tyX.space, .string tyX.name, .slice na nl nc, .slice ka kl kc] 83)).heap.size) := .inr (Nat.lt_of_lt_of_le hlg hBw.size)
      have HLN : Hid ((L.take i).length = i) := by have := HCL.out.1; show _ = _; rw [List.length_take]; omega
      have HBW : Hid (Below wr.heap.size wr ((wr.alloc (.cells #[.string sS, .string sT, .string sN, .int .u16 tyX.id, .string tyX.space, .string tyX.name, .slice na nl nc, .slice ka kl kc] 64)).alloc (.cells #[.string sS, .string sT, .string sN, .int .u16 tyX.id, .string tyX.space, .string tyX.name, .slice na nl nc, .slice ka kl kc] 83))) := hBw
      clear hBw
      go_wp2_with (at_builtin; refine wpList_appendI rfl (.tmp 35) (.tmp 45) 33 rfl (stays_col (n + 1)) elem_cs rfl HON.out rfl HBN.out rfl ?c1 (sS, sT, sN, tyX) HXN.out HFN.out ?c2 ?c3 ?_)
      case c1 => first | exact ⟨rfl, rfl, rfl, rfl, rfl, rfl, rfl, rfl⟩ | (intro u hu; simp at hu; rcases hu with rfl | rfl | rfl | rfl | rfl | rfl | rfl | rfl <;> rfl)
      case c2 => unfold maxLen; omega
      case c3 => omega
      intro v4 w4 ho4 hK4 hv4
      obtain ⟨xa4, xc4, hv4e⟩ := ho4.shape
      have hlen4 : (L.take i ++ [(sS, sT, sN, tyX)]).length = i + 1 := by rw [List.length_append, HLN.out]; rfl
      rw [hlen4] at hv4e
      have HO4 : Hid (OwnI 83 8 (VCol (n + 1)) w4 (fun z => (F z ∧ z < q) ∨ g < z) v4 (L.take (i + 1))) := by
        show OwnI _ _ _ _ _ _ _
        rw [take_next HXI.out]
        exact ho4
      have HG4 : Hid (w4.heap[g]? = some (.cells #[.int .i64 cnt, v, .bool mo, .int .i64 vk, .string vb, .slice none 0 0] 38 (0, 0))) := (hK4.block g (Nat.lt_of_lt_of_le hlg HBW.out.size) (fun e => by have := HKi.out g e; omega)).trans ((HBW.out.block g hlg).trans HGi.out)
      have HB4 : Hid (Below g w0 w4) := (HBi.out.trans (HBW.out.mono (Nat.le_of_lt hlg))).trans (hK4.below (Nat.le_trans (Nat.le_of_lt hlg) HBW.out.size) (fun z _ e => by have := HKi.out z e; omega))
      have HK4 : Hid (∀ k, v4.ownBlock = some k → g < k) := fun k hk => by
        rcases hv4 with e | e
        · exact HKi.out k (e.symm.trans hk)
        · rw [e] at hk
          have := Option.some.inj hk
          have := HBW.out.size
          omega
      subst hv4e
      obtain ⟨⟨d0, d1, d2, d3, d4, d5⟩, e0, e1, e2, e3, e4, e5⟩ := blk6 HG4.out
      have hl4 := block_lt HG4.out
      have HG5 : Hid ((w4.setCell ⟨g, 1, none⟩ (.slice xa4 (i + 1) xc4)).heap[g]? = some (.cells #[.int .i64 cnt, .slice xa4 (i + 1) xc4, .bool mo, .int .i64 vk, .string vb, .slice none 0 0] 38 (0, 0))) := blk_set HG4.out 1 _
      have HO5 : Hid (OwnI 83 8 (VCol (n + 1)) (w4.setCell ⟨g, 1, none⟩ (.slice xa4 (i + 1) xc4)) (fun z => (F z ∧ z < q) ∨ g < z) (.slice xa4 (i + 1) xc4) (L.take (i + 1))) := HO4.out.apart (stays_col (n + 1)) (one_kept w4 g 1 _) (fun z _ hz e => by have := HQG.out; omega)
      have HB5 : Hid (Below g w0 (w4.setCell ⟨g, 1, none⟩ (.slice xa4 (i + 1) xc4))) := HB4.out.trans ((one_kept w4 g 1 _).below (Nat.le_of_lt hl4) (fun z _ e => by omega))
      clear d0 d2 d3 d4 d5 e0 e2 e3 e4 e5 ho4 hK4 hv4 hlen4 g1 f1 a0 a2 a3 a4 a5
      go_wp2_with fail
      go_roundw
      case rel => exact ⟨i + 1, _, by omega, by go_num, HG5, HO5, HK4, HB5⟩
      case measure => simp [intOf]; omega
    · obtain rfl : i = cl := by omega
      obtain ⟨xa, xc, hvs⟩ := HOi.out.shape
      have hLt : L.take i = L := by rw [HCL.out.1, List.take_length]
      rw [hLt] at hvs
      rw [← HCL.out.1] at hvs
      obtain ⟨wA, hwA⟩ : ∃ x, x = wr := ⟨_, rfl⟩
      subst hwA
      obtain ⟨qa, hqa⟩ : ∃ qa, qa = wA.heap.size := ⟨_, rfl⟩
      have HQA : Hid (wA.heap.size = qa) := hqa.symm
      have HGQA : Hid (g < qa) := by rw [hqa]; exact block_lt HGi.out
      have HCA : Hid (OwnI 83 8 (VCol (n + 1)) wA (fun z => (F z ∧ z < q) ∨ (g < z ∧ z < qa)) v L) := by
        have h1 := HOi.out
        rw [hLt] at h1
        exact h1.sub (stays_col (n + 1)) (fun z hz hf => by rcases hf with hf | hf; exact .inl hf; exact .inr ⟨hf, by rw [hqa]; exact hz⟩)
      subst hvs
      have HBA : Hid (Below g w0 wA) := HBi.out
      clear hqa hLt HOi hlt hi HVi hzi
      go_wp2_with fail
      go_loopw [6] (fun t wr => ∃ (j : Nat) (v2 : Value), j ≤ rl ∧ t = .int .i64 j ∧ Hid (wr.heap[g]? = some (.cells #[.int .i64 cnt, .slice xa i xc, .bool mo, .int .i64 vk, .string vb, v2] 38 (0, 0))) ∧ Hid (OwnI 83 8 (VCol (n + 1)) wr (fun z => (F z ∧ z < q) ∨ (g < z ∧ z < qa)) (.slice xa i xc) L) ∧ Hid (OwnI 80 1 VRs wr (fun z => qa ≤ z) v2 (Q.take j)) ∧ Hid (Below g w0 wr) ∧ Hid (qa ≤ wr.heap.size)) (fun t _ => rl - (intOf t).toNat)
      case atStart => exact ⟨0, _, by omega, rfl, HGi, HCA, ownI_nil _ _ _ _ _, HBA, Nat.le_of_eq HQA.out.symm⟩
      case round =>
        obtain ⟨j, v2, hj, rfl, HGj, HCj, HRj, HBj, HSj⟩ := hrel
        have hzj := (HBj.out.block q hqg).trans HZ0.out
        clear a0 a1 a2 a3 a4 a5
        obtain ⟨⟨a0, a1, a2, a3, a4, a5⟩, _⟩ := blk6 hzj
        have HVj : Hid (TbV (n + 1) (fun z => F z ∧ z < q) wr ((cnt, L, mo, (vk, vb), Q) : Tb) ca i cc x lx cx ra rl rc) := HV0.out.old (by rw [HGE.out]; exact HBj.out)
        by_cases hlt2 : j < rl
        · obtain ⟨r, b, off, rx, rln, rcp, hxr, hra, hb, hbF, hcr, hrow⟩ := HVj.out.2.2.row hlt2
          subst hra
          have HXR : Hid (Q[j]? = some r) := hxr
          have HROW : Hid (Sees 2 (fun z => F z ∧ z < q) (VVal (fun z => F z ∧ z < q) wr) wr rx rln rcp r) := hrow
          have hrl4' : rln ≤ 4096 := by have h1 := HRL.out r (List.mem_of_getElem? hxr); have h2 := hrow.len_eq; omega
          have HRN : Hid (rln = r.length) := hrow.len_eq.symm
          have hrm := hrow.max
          obtain ⟨wo, hwo⟩ : ∃ x, x = wr := ⟨_, rfl⟩
          subst hwo
          obtain ⟨q2, hq2⟩ : ∃ q2, q2 = wo.heap.size := ⟨_, rfl⟩
          have HQ2 : Hid (wo.heap.size = q2) := hq2.symm
          have HGQ2 : Hid (g < q2 ∧ qa ≤ q2) := by rw [hq2]; exact ⟨block_lt HGj.out, HSj.out⟩
          have HBQ : Hid (b < q2) := by show b < q2; rw [hq2]; exact hb
          have HCR : Hid (wo.cell? ⟨b, off + j, none⟩ = some (.slice rx rln rcp)) := hcr
          have HA5 : Hid (wo.cell? ⟨q, 5, none⟩ = some (.slice (some ⟨b, off, none⟩) rl rc)) := a5
          clear hq2 hxr hrow hb
          go_wp2_with fail
          go_loopw [7, 8] (fun u t wz => ∃ l : Nat, l ≤ rln ∧ t = .int .i64 l ∧ Hid (OwnI 35 2 VVs wz (fun z => q2 ≤ z) u (r.take l)) ∧ Hid (Below q2 wo wz)) (fun _ t _ => rln - (intOf t).toNat)
          case atStart => exact ⟨0, by omega, rfl, ownI_nil _ _ _ _ _, Below.refl _ _⟩
          case round =>
            obtain ⟨l, hl2, rfl, HOl, HBl⟩ := hrel
            clear a0 a1 a2 a3 a4 a5 hcr
            have a5 : wr.cell? ⟨q, 5, none⟩ = some (.slice (some ⟨b, off, none⟩) rl rc) := (HBl.out.cell (p := ⟨q, 5, none⟩) (by have := HGQ2.out; show q < q2; omega)).trans HA5.out
            have hcr : wr.cell? ⟨b, off + j, none⟩ = some (.slice rx rln rcp) := (HBl.out.cell (p := ⟨b, off + j, none⟩) HBQ.out).trans HCR.out
            by_cases hlt3 : l < rln
            · obtain ⟨V, vb2, voff, vx, vl, vc, hxV, hrx, hvb, hvF, hv0, hv1, hvv⟩ := HROW.out.val hlt3
              subst hrx
              have HXV : Hid (r[l]? = some V) := hxV
              have HKP : Hid (∀ W, Below q2 wo W → (W.cell? ⟨q, 5, none⟩ = some (.slice (some ⟨b, off, none⟩) rl rc) ∧ W.cell? ⟨b, off + j, none⟩ = some (.slice (some ⟨vb2, voff, none⟩) rln rcp) ∧ W.cell? ⟨vb2, voff + l * 2, none⟩ = some (.int .i64 V.1) ∧ W.cell? ⟨vb2, voff + l * 2 + 1, none⟩ = some (.slice vx vl vc)) ∧ (convert 22 9 (.slice vx vl vc)).run Tryd.prog W = .ok (.string V.2) W ∧ Below q2 wo W) := by
                intro W hW
                have hvq : vb2 < q2 := by have := HQ2.out; omega
                have hcv := (hvv.1.old (by rw [HQ2.out]; exact hW)).conv
                rw [strOfNums_sNums] at hcv
                exact ⟨⟨(hW.cell (p := ⟨q, 5, none⟩) (by have := HGQ2.out; show q < q2; omega)).trans HA5.out, (hW.cell (p := ⟨b, off + j, none⟩) HBQ.out).trans HCR.out, (hW.cell (p := ⟨vb2, voff + l * 2, none⟩) hvq).trans hv0, (hW.cell (p := ⟨vb2, voff + l * 2 + 1, none⟩) hvq).trans hv1⟩, hcv, hW⟩
              have HLN : Hid ((r.take l).length = l) := by have := HRN.out; show _ = _; rw [List.length_take]; omega
              have HZ2 : Hid (q2 ≤ wr.heap.size) := by have := HBl.out.size; have := HQ2.out; show q2 ≤ _; omega
              clear hxV hv0 hv1 hvv a5 hcr
              obtain ⟨⟨m0, m1, m2, m3⟩, m4, m5⟩ := HKP.out wr HBl.out
              go_upto_region 14 with fail
              have hz2 := HZ2.out
              have hB0 : Below q2 wo wr := HBl.out
              go_region_held3 (fun W => (W.cell? ⟨q, 5, none⟩ = some (.slice (some ⟨b, off, none⟩) rl rc) ∧ W.cell? ⟨b, off + j, none⟩ = some (.slice (some ⟨vb2, voff, none⟩) rln rcp) ∧ W.cell? ⟨vb2, voff + l * 2, none⟩ = some (.int .i64 V.1) ∧ W.cell? ⟨vb2, voff + l * 2 + 1, none⟩ = some (.slice vx vl vc)) ∧ (convert 22 9 (.slice vx vl vc)).run Tryd.prog W = .ok (.string V.2) W ∧ Below q2 wo W)
                (first | (refine HKP.out _ (by repeat' (first | assumption | exact Below.refl _ _ | exact Below.size (by assumption) | exact Nat.le_refl _ | refine Below.drew ?_ | refine Below.alloc ?_ ?_ _))))
                (first
                  | (refine step_appI (by rfl) _ _ _ (by rfl) stays_vs elem_vs (F := fun z => q2 ≤ z) (xs := r.take l) (by rfl) (HOl.out.old stays_vs (by repeat' (first | assumption | exact Below.refl _ _ | refine Below.drew ?_ | exact below_one _ _))) (news := [.int .i64 V.1, .string V.2]) (by rfl) (heap_alloc_new _ _) (by rfl) (by simp [Value.oneCell']) V ⟨rfl, rfl⟩ (by show q2 ≤ _; simp; omega) (by rw [HLN.out]; unfold maxLen; omega) (by rw [HLN.out]; omega) ?_; intro v4 w4 ho4 hK4 hv4; have hB4 : Below q2 wo w4 := (hB0.trans (Below.mono (by repeat' (first | exact Below.refl _ _ | refine Below.drew ?_ | exact below_one _ _)) hz2)).trans (hK4.below (by simp; omega) (fun z _ e => (HOl.out.lt z e).1))))
              have HO4 : Hid (OwnI 35 2 VVs w4 (fun z => q2 ≤ z) v4 (r.take (l + 1))) := by
                show OwnI _ _ _ _ _ _ _
                rw [take_next HXV.out]
                exact ho4
              have HB4 : Hid (Below q2 wo w4) := hB4
              clear ho4 hK4 hv4 hB4 hB0 hz2 m0 m1 m2 m3 m4 m5
              go_wp2_with fail
              go_roundw
              case rel => exact ⟨l + 1, by omega, by go_num, HO4, HB4⟩
              case measure => simp [intOf]; omega
            · obtain rfl : l = rln := by omega
              obtain ⟨ya, yc, hrow2⟩ := HOl.out.shape
              have htr : r.take l = r := by rw [HRN.out, List.take_length]
              rw [htr] at hrow2
              rw [← HRN.out] at hrow2
              have HOr : Hid (OwnI 35 2 VVs wr (fun z => q2 ≤ z) u7 r) := by have h1 := HOl.out; rw [htr] at h1; exact h1
              have hBo : Below wo.heap.size wo wr := by rw [HQ2.out]; exact HBl.out
              have hgo : g < wo.heap.size := by have := HGQ2.out; have := HQ2.out; omega
              have HGz : Hid (wr.heap[g]? = some (.cells #[.int .i64 cnt, .slice xa i xc, .bool mo, .int .i64 vk, .string vb, v2] 38 (0, 0))) := (hBo.block g hgo).trans HGj.out
              have HCz : Hid (OwnI 83 8 (VCol (n + 1)) wr (fun z => (F z ∧ z < q) ∨ (g < z ∧ z < qa)) (.slice xa i xc) L) := HCj.out.old (stays_col (n + 1)) hBo
              have HRz : Hid (OwnI 80 1 VRs wr (fun z => qa ≤ z ∧ z < q2) v2 (Q.take j)) := (HRj.out.sub stays_rs (fun z hz hF => ⟨hF, by have := HQ2.out; omega⟩)).old stays_rs hBo
              have HBz : Hid (Below g w0 wr) := HBj.out.trans (hBo.mono (Nat.le_of_lt hgo))
              have HZ2 : Hid (q2 ≤ wr.heap.size) := by have := HBl.out.size; have := HQ2.out; show q2 ≤ _; omega
              subst hrow2
              have HBN : Hid ((wr.alloc (.cells #[.slice ya l yc] 80)).heap[wr.heap.size]? = some (.cells [Value.slice ya l yc].toArray 80 (0, 0))) := heap_alloc_new wr _
              have HON2 : Hid (OwnI 80 1 VRs (wr.alloc (.cells #[.slice ya l yc] 80)) (fun z => qa ≤ z) v2 (Q.take j)) := (HRz.out.old stays_rs (below_one _ _)).sub stays_rs (fun z _ hz => hz.1)
              have HXN : Hid (VRs (fun z => z < (wr.alloc (.cells #[.slice ya l yc] 80)).heap.size ∧ v2.ownBlock ≠ some z ∧ qa ≤ z) (wr.alloc (.cells #[.slice ya l yc] 80)) r (fun j => ([Value.slice ya l yc] : List Value).getD j default)) :=
                (HOr.out.old stays_vs (below_one wr (.cells #[.slice ya l yc] 80))).sub stays_vs (fun z h1 hz => ⟨h1, fun e => by have := (HRz.out.lt z e).1; omega, by have := HGQ2.out; omega⟩)
              have HFN : Hid ((fun z => qa ≤ z) (wr.alloc (.cells #[.slice ya l yc] 80)).heap.size) := by have := HZ2.out; have := HGQ2.out; show qa ≤ _; simp; omega
              have HLQ : Hid ((Q.take j).length = j) := by have := HCL.out.2; show _ = _; rw [List.length_take]; omega
              obtain ⟨⟨b0, b1, b2, b3, b4, b5⟩, e0, e1, e2, e3, e4, e5⟩ := blk6 HGz.out
              have hlgz := block_lt HGz.out
              have hvq := fun z hz => (HRz.out.lt z hz).1.1
              clear hBo e0 e1 e2 e3 e4 e5 b0 b1 b2 b3 b4
              go_wp2_with (at_builtin; refine wpList_appendI rfl (.tmp 89) (.tmp 91) 36 rfl stays_rs elem_rs rfl HON2.out rfl HBN.out rfl ?c1 r HXN.out HFN.out ?c2 ?c3 ?_)
              case c1 => rfl
              case c2 => first | (rw [HLQ.out]; unfold maxLen; omega) | (unfold maxLen; omega)
              case c3 => first | (rw [HLQ.out]; omega) | omega
              intro v8 w8 ho8 hK8 _
              obtain ⟨xa8, xc8, hv8e⟩ := ho8.shape
              have hlen8 : (Q.take j ++ [r]).length = j + 1 := by rw [List.length_append, HLQ.out]; rfl
              rw [hlen8] at hv8e
              have HO8 : Hid (OwnI 80 1 VRs w8 (fun z => qa ≤ z) v8 (Q.take (j + 1))) := by
                show OwnI _ _ _ _ _ _ _
                rw [take_next HXR.out]
                exact ho8
              have hAB : Below wr.heap.size wr (wr.alloc (.cells #[.slice ya l yc] 80)) := below_one wr _
              have hne : ∀ z, z < (wr.alloc (.cells #[.slice ya l yc] 80)).heap.size → v2.ownBlock = some z → qa ≤ z := fun z _ e => hvq z e
              have HG8 : Hid (w8.heap[g]? = some (.cells #[.int .i64 cnt, .slice xa i xc, .bool mo, .int .i64 vk, .string vb, v2] 38 (0, 0))) := (hK8.block g (by simp; omega) (fun e => by have := hvq g e; have := HGQA.out; omega)).trans ((hAB.block g hlgz).trans HGz.out)
              have HB8 : Hid (Below g w0 w8) := (HBz.out.trans (hAB.mono (Nat.le_of_lt hlgz))).trans (hK8.below (by simp; omega) (fun z hz e => by have := hne z hz e; have := HGQA.out; omega))
              have HC8 : Hid (OwnI 83 8 (VCol (n + 1)) w8 (fun z => (F z ∧ z < q) ∨ (g < z ∧ z < qa)) (.slice xa i xc) L) := (HCz.out.old (stays_col (n + 1)) hAB).apart (stays_col (n + 1)) hK8 (fun z hz hF e => by have := hne z hz e; have := HGQA.out; rcases hF with hF | hF <;> omega)
              have HS8 : Hid (qa ≤ w8.heap.size) := by have := HZ2.out; have := HGQ2.out; have := hK8.size; show qa ≤ _; simp at this; omega
              subst hv8e
              obtain ⟨⟨d0, d1, d2, d3, d4, d5⟩, e0, e1, e2, e3, e4, e5⟩ := blk6 HG8.out
              have hl8g := block_lt HG8.out
              have HG9 : Hid ((w8.setCell ⟨g, 5, none⟩ (.slice xa8 (j + 1) xc8)).heap[g]? = some (.cells #[.int .i64 cnt, .slice xa i xc, .bool mo, .int .i64 vk, .string vb, .slice xa8 (j + 1) xc8] 38 (0, 0))) := blk_set HG8.out 5 _
              have HO9 : Hid (OwnI 80 1 VRs (w8.setCell ⟨g, 5, none⟩ (.slice xa8 (j + 1) xc8)) (fun z => qa ≤ z) (.slice xa8 (j + 1) xc8) (Q.take (j + 1))) := HO8.out.apart stays_rs (one_kept w8 g 5 _) (fun z _ hz e => by have := HGQA.out; omega)
              have HC9 : Hid (OwnI 83 8 (VCol (n + 1)) (w8.setCell ⟨g, 5, none⟩ (.slice xa8 (j + 1) xc8)) (fun z => (F z ∧ z < q) ∨ (g < z ∧ z < qa)) (.slice xa i xc) L) := HC8.out.apart (stays_col (n + 1)) (one_kept w8 g 5 _) (fun z _ hz e => by have := HQG.out; rcases hz with hz | hz <;> omega)
              have HB9 : Hid (Below g w0 (w8.setCell ⟨g, 5, none⟩ (.slice xa8 (j + 1) xc8))) := HB8.out.trans ((one_kept w8 g 5 _).below (Nat.le_of_lt hl8g) (fun z hz e => by omega))
              have HS9 : Hid (qa ≤ (w8.setCell ⟨g, 5, none⟩ (.slice xa8 (j + 1) xc8)).heap.size) := by have := HS8.out; show qa ≤ _; rw [show (w8.setCell ⟨g, 5, none⟩ (.slice xa8 (j + 1) xc8)).heap.size = w8.heap.size by simp [World.setCell]]; exact this
              clear d0 d1 d2 d3 d4 b5 e0 e1 e2 e3 e4 ho8 hK8 hAB hne hvq hlen8 a5 hcr
              go_wp2_with fail
              go_roundw
              case rel => exact ⟨j + 1, _, by omega, by go_num, HG9, HC9, HO9, HB9, HS9⟩
              case measure => simp [intOf]; omega
        · obtain rfl : j = rl := by omega
          obtain ⟨ya, yc, hvr⟩ := HRj.out.shape
          have htr : Q.take j = Q := by rw [HCL.out.2, List.take_length]
          rw [htr] at hvr
          have HOr : Hid (OwnI 80 1 VRs wr (fun z => qa ≤ z) v2 Q) := by have h1 := HRj.out; rw [htr] at h1; exact h1
          have HCE : Hid (i = L.length) := HCL.out.1
          subst hvr
          obtain ⟨⟨b0, b1, b2, b3, b4, b5⟩, _⟩ := blk6 HGj.out
          have hgr := block_lt HGj.out
          have hqr : q + 1 < g := by have := HQG.out; omega
          have hrr := (HBj.out.block (q + 1) hqr).trans HR0.out
          obtain ⟨⟨k0, k1, k2, k3, k4, k5⟩, f0, f1, f2, f3, f4, f5⟩ := blk6 hrr
          obtain ⟨wF, hwF⟩ : ∃ wF, wF = ((((((wr.setCell ⟨q + 1, 0, none⟩ (.int .i64 cnt)).setCell ⟨q + 1, 1, none⟩ (.slice xa i xc)).setCell ⟨q + 1, 2, none⟩ (.bool mo)).setCell ⟨q + 1, 3, none⟩ (.int .i64 vk)).setCell ⟨q + 1, 4, none⟩ (.string vb)).setCell ⟨q + 1, 5, none⟩ (.slice ya Q.length yc)) := ⟨_, rfl⟩
          have HWF : Hid (((((((wr.setCell ⟨q + 1, 0, none⟩ (.int .i64 cnt)).setCell ⟨q + 1, 1, none⟩ (.slice xa i xc)).setCell ⟨q + 1, 2, none⟩ (.bool mo)).setCell ⟨q + 1, 3, none⟩ (.int .i64 vk)).setCell ⟨q + 1, 4, none⟩ (.string vb)).setCell ⟨q + 1, 5, none⟩ (.slice ya Q.length yc)) = wF) := hwF.symm
          have h1 := blk_set hrr 0 (.int .i64 cnt)
          have h2 := blk_set h1 1 (.slice xa i xc)
          have h3 := blk_set h2 2 (.bool mo)
          have h4 := blk_set h3 3 (.int .i64 vk)
          have h5 := blk_set h4 4 (.string vb)
          have h6 := blk_set h5 5 (.slice ya Q.length yc)
          have HF6 : Hid (wF.heap[q + 1]? = some (.cells #[.int .i64 cnt, .slice xa i xc, .bool mo, .int .i64 vk, .string vb, .slice ya Q.length yc] 38 (0, 0))) := by rw [hwF]; exact h6
          have hKF : Kept (fun k => k = q + 1) wr wF := by
            rw [hwF]
            exact (((((one_kept wr (q + 1) 0 _).trans (one_kept _ (q + 1) 1 _) (fun i _ e => e)).trans (one_kept _ (q + 1) 2 _) (fun i _ e => e)).trans (one_kept _ (q + 1) 3 _) (fun i _ e => e)).trans (one_kept _ (q + 1) 4 _) (fun i _ e => e)).trans (one_kept _ (q + 1) 5 _) (fun i _ e => e)
          have HC9 : Hid (OwnI 83 8 (VCol (n + 1)) wF (fun z => F z ∨ w.heap.size ≤ z) (.slice xa i xc) L) :=
            (HCj.out.apart (stays_col (n + 1)) hKF (fun z _ hf e => by rcases hf with hf | hf <;> omega)).sub (stays_col (n + 1)) (fun z _ hf => by rcases hf with hf | hf; exact .inl hf.1; exact .inr (by have := HQE.out; omega))
          have HR9 : Hid (OwnI 80 1 VRs wF (fun z => F z ∨ w.heap.size ≤ z) (.slice ya Q.length yc) Q) :=
            (HOr.out.apart stays_rs hKF (fun z _ hf e => by have := HGQA.out; omega)).sub stays_rs (fun z _ hf => .inr (by have := HQE.out; have := HGQA.out; omega))
          have HB9 : Hid (Below w.heap.size w wF) := (HB0.out.trans (HBj.out.mono (by have := HQE.out; omega))).trans (hKF.below (by have := HQE.out; omega) (fun z _ e => by have := HQE.out; omega))
          clear h1 h2 h3 h4 h5 h6 hwF hKF hrr
          go_wp2_with fail
          rw [HWF.out]
          obtain ⟨⟨p0, p1, p2, p3, p4, p5⟩, _⟩ := blk6 HF6.out
          exact bodyPost_ret (v := .agg #[.int .i64 cnt, .slice xa i xc, .bool mo, .int .i64 vk, .string vb, .slice ya Q.length yc]) (by simp [results, Tryd.results13, go_sem, p0, p1, p2, p3, p4, p5]) rfl
            ⟨xa, xc, ya, yc, by rw [← HCE.out], ⟨by rw [← HCE.out]; exact HC9.out, HR9.out⟩, HB9⟩
end Go.Proofs.YtnapeecmlkkolaaDoor
