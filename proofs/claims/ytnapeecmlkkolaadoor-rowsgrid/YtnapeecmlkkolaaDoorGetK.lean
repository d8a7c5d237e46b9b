/-
  What is got, as a function of the bytes, and the contracts of getKids and getTuple.
-/
import Derived.Test.YtnapeecmlkkolaaDoorKids
namespace Go.Proofs.YtnapeecmlkkolaaDoor
open Go.RowKit
set_option linter.unusedVariables false
set_option linter.unusedSimpArgs false

/-- What is got: what it is, how many bytes are done with, the error. -/
structure Res (α : Type) where
  val : α
  done : Nat
  err : Int

def textR (zs : List Int) : Res ByteArray := ⟨strOfNums (textA zs).bytes, (textA zs).done, (textA zs).err⟩

/-- So many items from place d on, behind those that are got already. -/
def goR {α : Type} (p : List Int → Res α) (zs : List Int) : Nat → Nat → List α → Res (List α)
  | 0, d, acc => ⟨acc, d, 0⟩
  | n + 1, d, acc => if (p (zs.drop d)).err = 0 then goR p zs n (d + (p (zs.drop d)).done) (acc ++ [(p (zs.drop d)).val]) else ⟨[], 0, (p (zs.drop d)).err⟩

/-- No type. -/
def tyNil : Ty := ⟨0, ⟨#[]⟩, ⟨#[]⟩, [], []⟩

/-- A name, and a type. -/
def fieldR (q : List Int → Res Ty) (zs : List Int) : Res (ByteArray × Ty) :=
  if (textR zs).err = 0 then
    if (q (zs.drop (textR zs).done)).err = 0 then ⟨((textR zs).val, (q (zs.drop (textR zs).done)).val), (textR zs).done + (q (zs.drop (textR zs).done)).done, 0⟩
    else ⟨(ByteArray.empty, tyNil), 0, (q (zs.drop (textR zs).done)).err⟩
  else ⟨(ByteArray.empty, tyNil), 0, (textR zs).err⟩

/-- How many, as a short, and so many kids. -/
def tupleR (q : List Int → Res Ty) (zs : List Int) : Res (List Ty) :=
  if zs.length < 2 then ⟨[], 0, 10⟩ else goR q zs (numTo zs 2).toNat 2 []

/-- What a Udt has behind its Id. -/
def udtR (q : List Int → Res Ty) (zs : List Int) : Res Ty :=
  if (textR zs).err = 0 then
    if (textR (zs.drop (textR zs).done)).err = 0 then
      if (zs.drop ((textR zs).done + (textR (zs.drop (textR zs).done)).done)).length < 2 then ⟨tyNil, 0, 10⟩ else
      let d := (textR zs).done + (textR (zs.drop (textR zs).done)).done
      let r := goR (fieldR q) zs (numTo (zs.drop d) 2).toNat (d + 2) []
      if r.err = 0 then ⟨⟨48, (textR zs).val, (textR (zs.drop (textR zs).done)).val, r.val.map (·.1), r.val.map (·.2)⟩, r.done, 0⟩ else ⟨tyNil, 0, r.err⟩
    else ⟨tyNil, 0, (textR (zs.drop (textR zs).done)).err⟩
  else ⟨tyNil, 0, (textR zs).err⟩

/-- A type, so many deep at most. -/
def tyR : Nat → List Int → Res Ty
  | 0, _ => ⟨tyNil, 0, 13⟩
  | n + 1, zs =>
    if zs.length < 2 then ⟨tyNil, 0, 10⟩ else
    let id := numTo zs 2
    let ys := zs.drop 2
    if id = 0 then (if (textR ys).err = 0 then ⟨⟨0, ⟨#[]⟩, (textR ys).val, [], []⟩, 2 + (textR ys).done, 0⟩ else ⟨tyNil, 0, (textR ys).err⟩)
    else if id = 48 then (if (udtR (tyR n) ys).err = 0 then ⟨(udtR (tyR n) ys).val, 2 + (udtR (tyR n) ys).done, 0⟩ else ⟨tyNil, 0, (udtR (tyR n) ys).err⟩)
    else if id = 32 ∨ id = 34 ∨ id = 33 ∨ id = 49 then
      let r := if id = 49 then tupleR (tyR n) ys else goR (tyR n) ys (if id = 33 then 2 else 1) 0 []
      if r.err = 0 then ⟨⟨id, ⟨#[]⟩, ⟨#[]⟩, [], r.val⟩, 2 + r.done, 0⟩ else ⟨tyNil, 0, r.err⟩
    else if plainB id = true then ⟨⟨id, ⟨#[]⟩, ⟨#[]⟩, [], []⟩, 2, 0⟩ else ⟨tyNil, 0, 11⟩

theorem goR_step {α : Type} {p : List Int → Res α} {zs : List Int} {k n d : Nat} {acc : List α} {X : Res (List α)} (h : goR p zs (n - k) d acc = X) (hk : k < n) (he : (p (zs.drop d)).err = 0) :
    goR p zs (n - (k + 1)) (d + (p (zs.drop d)).done) (acc ++ [(p (zs.drop d)).val]) = X := by
  rw [show n - k = (n - (k + 1)) + 1 by omega, goR, if_pos he] at h
  exact h

theorem goR_stop {α : Type} {p : List Int → Res α} {zs : List Int} {k n d : Nat} {acc : List α} {X : Res (List α)} (h : goR p zs (n - k) d acc = X) (hk : k < n) (he : (p (zs.drop d)).err ≠ 0) :
    X = ⟨[], 0, (p (zs.drop d)).err⟩ := by
  rw [show n - k = (n - (k + 1)) + 1 by omega, goR, if_neg he] at h
  exact h.symm

theorem goR_end {α : Type} {p : List Int → Res α} {zs : List Int} {k n d : Nat} {acc : List α} {X : Res (List α)} (h : goR p zs (n - k) d acc = X) (hk : n ≤ k) : X = ⟨acc, d, 0⟩ := by
  rw [show n - k = 0 by omega, goR] at h
  exact h.symm

theorem Behind.row {w : World} {b o : Nat} {r : Option Addr} {lr cr : Nat} {zs : List Int} {d : Nat} {er : Int} (h : Behind w (some ⟨b, o, none⟩) r lr cr zs d er) (he : er = 0) : d ≤ zs.length ∧ ∃ off, r = some ⟨b, off, none⟩ ∧ BRow w b off lr cr (zs.drop d) := by
  rcases h with ⟨h, _⟩ | ⟨_, h1, _, h2⟩
  · exact absurd he h
  · obtain ⟨b', o', off, ha, hr, _, hR⟩ := h2
    cases ha
    exact ⟨h1, off, hr, hR⟩

theorem getText_r {w : World} {a : Option Addr} {len cap : Nat} {zs : List Int} (h : IsB w a len cap zs) (hsm : len ≤ 140737488351232) {X : Res ByteArray} (hX : X = textR zs) :
    Calls Tryd.prog 71 #[.slice a len cap] w fun e w' => ∃ r lr cr, e = .returned (.tuple #[.string X.val, .slice r lr cr, .int .i64 X.err]) ∧ Hid (Behind w' a r lr cr zs X.done X.err) ∧ Below w.heap.size w w' := by
  subst hX; exact getText_any h hsm

/-- Blocks that are new since base. -/
def New (base : Nat) (w : World) : Nat → Prop := fun k => base ≤ k ∧ k < w.heap.size

/-- The contract of getType, so many deep. -/
def GetsTy (f : Nat) : Prop := ∀ (w : World) (a : Option Addr) (len cap : Nat) (zs : List Int), IsB w a len cap zs → Tab w → len ≤ 140737488351232 → ∀ X : Res Ty, X = tyR f zs → ∀ p : Int, p = 21 - f →
  Calls Tryd.prog 85 #[.slice a len cap, .int .i64 p] w fun e w' => ∃ r lr cr na nl nc ka kl kc, e = .returned (.tuple #[.agg #[.int .u16 X.val.id, .string X.val.space, .string X.val.name, .slice na nl nc, .slice ka kl kc], .slice r lr cr, .int .i64 X.err]) ∧
    Hid (TyAt (f - 1) (New w.heap.size w') w' X.val na nl nc ka kl kc) ∧ Hid (Behind w' a r lr cr zs X.done X.err) ∧ Below w.heap.size w w'

theorem tyAt_nil (n : Nat) (F : Nat → Prop) (w : World) : TyAt n F w tyNil none 0 0 none 0 0 :=
  ⟨⟨by decide, by decide⟩, by unfold maxLen; show 0 ≤ _; omega, by unfold maxLen; show 0 ≤ _; omega, sees_nil _ _ _ _, sees_nil _ _ _ _⟩

theorem TyAt.vt {n : Nat} {F : Nat → Prop} {w : World} {t : Ty} {na : Option Addr} {nl nc : Nat} {ka : Option Addr} {kl kc : Nat} (h : TyAt n F w t na nl nc ka kl kc) : VT (n + 1) F w t (fun j => [Value.int .u16 t.id, .string t.space, .string t.name, .slice na nl nc, .slice ka kl kc].getD j default) :=
  ⟨na, nl, nc, ka, kl, kc, rfl, rfl, rfl, rfl, rfl, h⟩

theorem five_one (a : Int) (b c : ByteArray) (na : Option Addr) (nl nc : Nat) (ka : Option Addr) (kl kc : Nat) : ∀ y ∈ [Value.int .u16 a, .string b, .string c, .slice na nl nc, .slice ka kl kc], y.oneCell' = true := by
  intro y hy
  simp at hy
  rcases hy with rfl | rfl | rfl | rfl | rfl <;> rfl

theorem two_new (w : World) (o : Obj) (c : Array Value) (ty : TypeId) : ((w.alloc o).alloc (.cells c ty)).heap[w.heap.size + 1]? = some (.cells c ty (0, 0)) := by
  have := heap_alloc_new (w.alloc o) (.cells c ty)
  rw [World.size_alloc] at this
  exact this

theorem OwnK.mono {n : Nat} {w : World} {base base' : Nat} {v u : Value} {xs : List Ty} (h : OwnK n w base v u xs) (hb : base' ≤ base) : OwnK n w base' v u xs := by
  obtain ⟨hsep, cs, ho, hc⟩ := h
  refine ⟨hsep, cs, ⟨ho.1, ?_⟩, fun i x hx => VT.mono (fun k hk hF => ⟨⟨Nat.le_trans hb hF.1, hF.2⟩, rfl⟩) (Nat.le_refl _) (hc i x hx)⟩
  rcases ho.2 with h2 | ⟨g, cap, cur, hv, hg, r⟩
  · exact .inl h2
  · exact .inr ⟨g, cap, cur, hv, Nat.le_trans hb hg, r⟩

theorem BRow.len_le {w : World} {b off len cap : Nat} {zs : List Int} (h : BRow w b off len cap zs) : len = zs.length := h.len_eq.symm

set_option maxHeartbeats 1000000 in
theorem getKids_any (f : Nat) (hf : f ≤ 20) (ih : GetsTy f) {w : World} {b off len cap : Nat} {zs : List Int} (h : BRow w b off len cap zs) (hb : b < w.heap.size) (hT : Tab w) (hsm : len ≤ 140737488351232) (N d0 : Nat) (hN : N < 65536)
    {ys : List Int} (hys : zs = ys.drop d0) {Y : Res (List Ty)} (hY : Y = goR (tyR f) ys N d0 []) (q p : Int) (hq : q = N) (hp : p = 21 - f) (hyl : d0 + zs.length = ys.length) :
    Calls Tryd.prog 90 #[.slice (some ⟨b, off, none⟩) len cap, .int .u64 q, .int .i64 p] w fun e w' => ∃ v r lr cr, e = .returned (.tuple #[v, .slice r lr cr, .int .i64 Y.err]) ∧
      Hid (OwnK f w' w.heap.size v (.slice none 0 0) Y.val) ∧ Hid ((Y.err ≠ 0 ∧ lr = 0) ∨ (Y.err = 0 ∧ Y.done ≤ ys.length ∧ ∃ o, r = some ⟨b, o, none⟩ ∧ BRow w' b o lr cr (ys.drop Y.done))) ∧ Below w.heap.size w w' := by
  have hz := h.len_eq
  have HL : Hid (Y = goR (tyR f) ys N d0 []) := hY
  have H : Hid (BRow w b off len cap (ys.drop d0)) := hys ▸ h
  have HYL : Hid (ys.length ≤ d0 + 140737488351232) := by show _ ≤ _; omega
  have HD0 : Hid (d0 ≤ ys.length) := by show _ ≤ _; omega
  have HT : Hid (Tab w) := hT
  have IH : Hid (GetsTy f) := ih
  have HP : Hid _ := hp
  subst hq
  clear h hz hY hys hT ih hyl hp
  go_enter Tryd.func90, Tryd.ntmps90
  go_wp2_with fail
  go_loopw [9, 10, 16] (fun l r i wr => ∃ k d off lr cr acc, k ≤ N ∧ i = .int .u64 k ∧ r = .slice (some ⟨b, off, none⟩) lr cr ∧ Hid (BRow wr b off lr cr (ys.drop d)) ∧ Hid (d0 ≤ d ∧ d ≤ ys.length) ∧ Hid (OwnK f wr w.heap.size l (.slice none 0 0) acc) ∧ acc.length = k ∧
      Hid (goR (tyR f) ys (N - k) d acc = Y) ∧ Below w.heap.size w wr) (fun _ _ i _ => N - (intOf i).toNat)
  case atStart => exact ⟨0, d0, off, _, _, [], by omega, rfl, rfl, H, ⟨Nat.le_refl _, HD0.out⟩, ownK_nil _ _ _ _, rfl, HL.out.symm, Below.refl _ _⟩
  case round =>
    obtain ⟨k, d, off', lr, cr, acc, hk, rfl, rfl, HR, HD, HO, hacc, HG, hB⟩ := hrel
    by_cases hlt : k < N
    · have HLR : Hid (lr ≤ 140737488351232) := by
        show _ ≤ _
        have := HYL.out
        have := HD.out.1
        rw [HR.out.len_le, List.length_drop]; omega
      obtain ⟨X, hX⟩ : ∃ X, X = tyR f (ys.drop d) := ⟨_, rfl⟩
      have HX : Hid _ := hX
      clear hX
      go_wp2_with fail
      refine (IH.out wr _ lr cr _ HR.out.isB (HT.out.old hB) HLR.out X HX.out _ HP.out).mono ?_
      rintro e w2 ⟨r2, lr2, cr2, na, nl, nc, ka, kl, kc, rfl, HTY, HB2, hB2⟩
      have hbs := hB.size
      have hbs2 := hB2.size
      by_cases he : X.err = 0
      · obtain ⟨hd2, off2, rfl, hR2⟩ := HB2.out.row he
        rw [List.drop_drop] at hR2
        rw [List.length_drop] at hd2
        have HD2 : Hid (d0 ≤ d + X.done ∧ d + X.done ≤ ys.length) := by
          have := HD.out
          exact ⟨by omega, by omega⟩
        have HG2 : Hid (goR (tyR f) ys (N - (k + 1)) (d + X.done) (acc ++ [X.val]) = Y) := by
          have := goR_step HG.out hlt (by rw [← HX.out]; exact he)
          rw [← HX.out] at this
          exact this
        obtain ⟨f', hf'⟩ : ∃ f', f = f' + 1 := by
          cases f with
          | zero => rw [HX.out] at he; exact absurd (show (13 : Int) = 0 from he) (by decide)
          | succ f' => exact ⟨f', rfl⟩
        have HF' : Hid _ := hf'
        clear hf'
        have HR2 : Hid (BRow w2 b off2 lr2 cr2 (ys.drop (d + X.done))) := hR2
        clear hR2 hd2
        rw [he]
        go_wp2_with (at_builtin; refine wpList_append_kid (n := f) (base := w.heap.size) (xs := acc) (u := .slice none 0 0) (news := [.int .u16 X.val.id, .string X.val.space, .string X.val.name, .slice na nl nc, .slice ka kl kc]) rfl (.tmp 28) (.tmp 30) rfl rfl ?c0 rfl (two_new _ _ _ _) rfl (five_one _ _ _ _ _ _ _ _ _) X.val ?c2 ?c3 ?c4 ?c5 ?_)
        case c0 => exact (HO.out.old hB2).old ((below_one _ _).alloc (by simp) _)
        case c2 =>
          have h1 := (HF'.out ▸ HTY.out : TyAt (f' + 1 - 1) (New wr.heap.size w2) w2 X.val na nl nc ka kl kc).vt
          rw [Nat.add_sub_cancel, ← HF'.out] at h1
          refine VT.mono (fun j hj hF => ?_) (by simp; omega) h1
          have h2 : u9.ownBlock ≠ some j := fun e => by
            have := (HO.out.lt j e).2
            have := hF.1
            omega
          have h3 : w.heap.size ≤ j := by have := hF.1; omega
          exact ⟨⟨h3, by simp; omega, h2, fun e => by simp [Value.ownBlock] at e⟩, ((below_one w2 _).alloc (by simp) _).block j hj⟩
        case c3 => intro j hj; simp [Value.ownBlock] at hj
        case c4 => omega
        case c5 => simp; omega
        intro v3 w3 HO3 HG3 HM3
        have hB3 : Below w.heap.size w w3 := ((hB.trans (hB2.mono hbs)).trans (((below_one w2 _).alloc (by simp) _).mono (by omega))).grown HG3.out (by simp; omega) (fun j hj => (HO.out.lt j hj).1)
        have HR3 : Hid (BRow w3 b off2 lr2 cr2 (ys.drop (d + X.done))) := by
          refine (HR2.out.old ((below_one w2 _).alloc (by simp) _)).below (base := w.heap.size) ((Below.refl _ _).grown HG3.out (by simp; omega) (fun j hj => (HO.out.lt j hj).1)) (fun _ => hb)
        go_wp2_with fail
        go_roundw
        case rel => exact ⟨k + 1, d + X.done, off2, lr2, cr2, acc ++ [X.val], by omega, by go_num, rfl, HR3, HD2, HO3, by simp [hacc], HG2, hB3⟩
        case measure => simp [intOf]; omega
      · have t : (X.err == 0) = false := by simpa using he
        have HE := goR_stop HG.out hlt (by rw [← HX.out]; exact he)
        have HHE : Hid _ := HE
        have HE2 : Hid _ := he
        clear HE he
        go_wp2_with fail
        go_ret3
        exact ⟨.slice none 0 0, none, 0, 0, by rw [HHE.out, ← HX.out]; rfl, by rw [HHE.out]; exact ownK_nil _ _ _ _, by rw [HHE.out, ← HX.out]; exact .inl ⟨HE2.out, rfl⟩, (hB.trans (hB2.mono hbs)).trans ((below_one w2 _).mono (by omega))⟩
    · have HE := goR_end HG.out (by omega)
      have HHE : Hid _ := HE
      clear HE
      go_wp2_with fail
      go_ret3
      exact ⟨_, _, _, _, by rw [HHE.out]; rfl, by rw [HHE.out]; exact HO, by rw [HHE.out]; exact .inr ⟨rfl, HD.out.2, off', rfl, HR.out⟩, hB⟩

set_option maxHeartbeats 1000000 in
theorem getTuple_any (f : Nat) (hf : f ≤ 20) (ih : GetsTy f) {w : World} {b off len cap : Nat} {zs : List Int} (h : BRow w b off len cap zs) (hb : b < w.heap.size) (hT : Tab w) (hsm : len ≤ 140737488351232) {Y : Res (List Ty)} (hY : Y = tupleR (tyR f) zs) (p : Int) (hp : p = 20 - f) :
    Calls Tryd.prog 92 #[.slice (some ⟨b, off, none⟩) len cap, .int .i64 p] w fun e w' => ∃ v r lr cr, e = .returned (.tuple #[v, .slice r lr cr, .int .i64 Y.err]) ∧
      Hid (OwnK f w' w.heap.size v (.slice none 0 0) Y.val) ∧ Hid ((Y.err ≠ 0 ∧ lr = 0) ∨ (Y.err = 0 ∧ Y.done ≤ zs.length ∧ ∃ o, r = some ⟨b, o, none⟩ ∧ BRow w' b o lr cr (zs.drop Y.done))) ∧ Below w.heap.size w w' := by
  have hz := h.len_eq
  have hp1 : 0 ≤ p := by omega
  have hp2 : p ≤ 20 := by omega
  have HP : Hid (p + 1 = 21 - f) := by show _ = _; omega
  by_cases hl : len < 2
  · have hY2 : Y = ⟨[], 0, 10⟩ := by rw [hY, tupleR, if_pos (by omega)]
    subst hY2
    clear hY h hz hT hp
    go_enter Tryd.func92, Tryd.ntmps92
    go_wp2_with fail
    refine (bget_short _ len cap 2 _ (by omega) (by omega) hl _ rfl).mono ?_
    rintro e w1 ⟨rfl, rfl⟩
    go_wp2_with fail
    go_ret3
    exact ⟨_, _, _, _, rfl, ownK_nil _ _ _ _, .inl ⟨(by decide : (10 : Int) ≠ 0), rfl⟩, Below.refl _ _⟩
  · obtain ⟨N, hN⟩ := Int.eq_ofNat_of_zero_le (numTo_bound zs h.rng 2 (by omega)).1
    have hN2 := (numTo_bound zs h.rng 2 (by omega)).2
    rw [hN] at hN2
    have hN3 : N < 65536 := by have h4 : (256 : Int) ^ 2 = 65536 := by decide
                               omega
    have HY : Hid (Y = goR (tyR f) zs N 2 []) := by
      show _ = _
      rw [hY, tupleR, if_neg (by omega), hN, Int.toNat_natCast]
    have H : Hid (BRow w b off len cap zs) := h
    have HN : Hid (numTo zs 2 = N) := hN
    have HZ : Hid (zs.length = len) := hz
    have HT : Hid (Tab w) := hT
    clear h hN hN2 hz hY hT hp
    go_enter Tryd.func92, Tryd.ntmps92
    go_wp2_with fail
    refine (bget H.out 2 (by omega) (by omega) (by omega) _ rfl).mono ?_
    rintro e w1 ⟨off1, rfl, hR1, hB1⟩
    rw [HN.out]
    have HR1 : Hid (BRow _ _ _ _ _ _) := hR1
    have hbs := hB1.size
    clear hR1
    go_wp2_with fail
    refine (getKids_any f hf ih HR1.out (by omega) (HT.out.old hB1) (by omega) N 2 hN3 rfl HY.out _ _ rfl HP.out (by have := HZ.out; have := HR1.out.len_eq; omega)).mono ?_
    rintro e w2 ⟨v, r, lr, cr, rfl, HO, HBh, hB2⟩
    go_wp2_with fail
    go_ret3
    exact ⟨v, r, lr, cr, rfl, HO.out.mono hbs, HBh, hB1.trans (hB2.mono hbs)⟩
end Go.Proofs.YtnapeecmlkkolaaDoor
