/-
  The program's Read.
-/
import Derived.Test.YtohkpihjkaffoaaDoorRr
import Derived.Test.YtohkpihjkaffoaaDoorShelf
namespace Go.Proofs.YtohkpihjkaffoaaDoor
open Go.RowKit Go.Lib Go.Shelf
set_option maxRecDepth 100000
set_option linter.unusedVariables false
set_option linter.unusedSimpArgs false

theorem below_bw (w : World) (e : TypeId) (s : ByteArray) : Below w.heap.size w (Lib.bytesWorld w e s) :=
  ⟨rfl, rfl, rfl, by rw [Lib.bytesWorld_size]; omega, fun k hk => Lib.bytesWorld_at_old w e s k hk⟩

theorem var_old {w W : World} (hB : Below w.heap.size w W) {n : String} {cs : Array Value} (h : w.var? Tryd.prog n = some cs) : W.var? Tryd.prog n = some cs := by
  unfold World.var? at h ⊢
  cases hg : Tryd.prog.globalNamed n with
  | none => simp [hg] at h
  | some g =>
    simp only [hg, Option.bind_some] at h ⊢
    have hlt : g < w.heap.size := by
      rcases Nat.lt_or_ge g w.heap.size with h' | h'
      · exact h'
      · simp [Array.getElem?_eq_none h'] at h
    rw [hB.block g hlt]
    exact h

/-- The two errors that ParseInt tells are there. -/
structure Sents (w : World) : Prop where
  syn : ∃ tp p, w.var? Tryd.prog "strconv.ErrSyntax" = some #[.iface tp p]
  ran : ∃ tp p, w.var? Tryd.prog "strconv.ErrRange" = some #[.iface tp p]

theorem Sents.old {w W : World} (h : Sents w) (hB : Below w.heap.size w W) : Sents W :=
  ⟨by obtain ⟨tp, p, e⟩ := h.syn; exact ⟨tp, p, var_old hB e⟩, by obtain ⟨tp, p, e⟩ := h.ran; exact ⟨tp, p, var_old hB e⟩⟩

theorem plus_ahead {l : List UInt8} : Lib.hasPrefix l [43] = true ↔ ∃ r, l = 43 :: r := by
  unfold Lib.hasPrefix
  cases l with
  | nil => simp
  | cons c r =>
    simp [List.isPrefixOf]
    exact ⟨fun h => h.symm, fun h => h.symm⟩

theorem parse_ok {w : World} {s : ByteArray} (hl : s.size ≤ 1000000) {v : Int} (h : Lib.parseIntB 64 s.data.toList = .ok v) :
    Calls Tryd.prog 31 #[.string s, .int .i64 10, .int .i64 64] w fun e w' => e = .returned (.tuple #[.int .i64 v, .nilIface]) ∧ Below w.heap.size w w' := by
  refine (Any.strconv_ParseInt_10_at64_ok Tryd.parseL s (by omega) v h w).mono ?_
  rintro e w' ⟨rfl, hw⟩
  refine ⟨rfl, ?_⟩
  rcases hw with rfl | ⟨t, rfl⟩
  · exact Below.refl _ _
  · exact below_bw _ _ _

theorem parse_bad {w : World} (hS : Sents w) {s : ByteArray} (hl : s.size ≤ 1000000) (h : ∀ v, Lib.parseIntB 64 s.data.toList ≠ .ok v) :
    Calls Tryd.prog 31 #[.string s, .int .i64 10, .int .i64 64] w fun e w' => ∃ u N, e = .returned (.tuple #[.int .i64 u, .iface 96 (.pointer (some ⟨N, 0, none⟩))]) ∧ Below w.heap.size w w' := by
  cases hp : Lib.parseIntB 64 s.data.toList with
  | ok v => exact absurd hp (h v)
  | «syntax» =>
    obtain ⟨tp, p, hv⟩ := hS.syn
    refine (Any.strconv_ParseInt_10_at64_syntax_var Tryd.parseL s (by omega) hp tp p w hv).mono ?_
    rintro e w' ⟨N, rfl, _, _, hB⟩
    exact ⟨_, N, rfl, hB⟩
  | range =>
    obtain ⟨tp, p, hv⟩ := hS.ran
    refine (Any.strconv_ParseInt_10_at64_range_var Tryd.parseL s (by omega) hp tp p w hv).mono ?_
    rintro e w' ⟨N, rfl, _, _, hB⟩
    exact ⟨_, N, rfl, hB⟩

theorem no_plus_here {s : ByteArray} (h : ¬ Lib.hasPrefix s.data.toList [43] = true) {w : World} :
    Calls Tryd.prog 30 #[.string s, .string ⟨#[43]⟩] w fun e w' => e = .returned (.bool false) ∧ w' = w := by
  have h2 := Any.strings_HasPrefix Tryd.prefixL s ⟨#[43]⟩ w
  have e : Lib.hasPrefix s.data.toList (⟨#[43]⟩ : ByteArray).data.toList = false := by simpa using h
  rw [e] at h2
  exact h2

/-- A number is read without leaning on anything in memory. -/
theorem read_ok {w : World} {s : ByteArray} (hl : s.size ≤ 1000000) {x : Int} (hx : rd s.data.toList = some x) :
    Calls Tryd.prog 18 #[.string s] w fun e w' => e = .returned (.tuple #[.int .i64 x, .int .i64 0]) ∧ Below w.heap.size w w' := by
  have hb : ¬ Lib.hasPrefix s.data.toList [43] = true := by
    rw [plus_ahead]
    rintro ⟨r, e⟩
    rw [e, rd_plus] at hx
    cases hx
  have ho : Lib.parseIntB 64 s.data.toList = .ok x := by
    have e := parse_rd s.data.toList (fun r e => hb (plus_ahead.2 ⟨r, e⟩))
    rw [hx] at e
    cases hp : Lib.parseIntB 64 s.data.toList with
    | ok v => rw [hp] at e; cases e; rfl
    | «syntax» => rw [hp] at e; cases e
    | range => rw [hp] at e; cases e
  have HP : Hid (Calls Tryd.prog 30 #[.string s, .string ⟨#[43]⟩] w fun e w' => e = .returned (.bool false) ∧ w' = w) := no_plus_here hb
  have HI : Hid (Calls Tryd.prog 31 #[.string s, .int .i64 10, .int .i64 64] w fun e w' => e = .returned (.tuple #[.int .i64 x, .nilIface]) ∧ Below w.heap.size w w') := parse_ok hl ho
  clear hb ho hx
  go_enter Tryd.func18, Tryd.ntmps18
  go_wp2_with (first
    | (go_at_call 30; refine HP.out.mono ?_; rintro e w' ⟨rfl, rfl⟩)
    | (go_at_call 31; refine HI.out.mono ?_; rintro e w' ⟨rfl, hB⟩; have HB : Hid (Below _ _ w') := hB; clear hB))
  go_ret2
  exact ⟨rfl, HB.out⟩

theorem read_any {w : World} (hS : Sents w) {s : ByteArray} (hl : s.size ≤ 1000000) {x er : Int} (hx : rdV (rd s.data.toList) = (x, er)) :
    Calls Tryd.prog 18 #[.string s] w fun e w' => e = .returned (.tuple #[.int .i64 x, .int .i64 er]) ∧ Below w.heap.size w w' := by
  cases hr : rd s.data.toList with
  | some v =>
    rw [hr] at hx
    cases hx
    exact read_ok hl hr
  | none =>
    rw [hr] at hx
    cases hx
    by_cases hb : Lib.hasPrefix s.data.toList [43] = true
    · have HP : Hid (Calls Tryd.prog 30 #[.string s, .string ⟨#[43]⟩] w fun e w' => e = .returned (.bool true) ∧ w' = w) := by
        have h2 := Any.strings_HasPrefix Tryd.prefixL s ⟨#[43]⟩ w
        have e : Lib.hasPrefix s.data.toList (⟨#[43]⟩ : ByteArray).data.toList = true := hb
        rw [e] at h2
        exact h2
      clear hb hr hS
      go_enter Tryd.func18, Tryd.ntmps18
      go_wp2_with (go_at_call 30; refine HP.out.mono ?_; rintro e w' ⟨rfl, rfl⟩)
      go_ret2
      exact ⟨rfl, Below.refl _ _⟩
    · have ho : ∀ v, Lib.parseIntB 64 s.data.toList ≠ .ok v := by
        intro v hv
        have e := parse_rd s.data.toList (fun r e => hb (plus_ahead.2 ⟨r, e⟩))
        rw [hr, hv] at e
        cases e
      have HP : Hid (Calls Tryd.prog 30 #[.string s, .string ⟨#[43]⟩] w fun e w' => e = .returned (.bool false) ∧ w' = w) := no_plus_here hb
      have HI : Hid (Calls Tryd.prog 31 #[.string s, .int .i64 10, .int .i64 64] w fun e w' => ∃ u N, e = .returned (.tuple #[.int .i64 u, .iface 96 (.pointer (some ⟨N, 0, none⟩))]) ∧ Below w.heap.size w w') := parse_bad hS hl ho
      clear hb ho hr hS
      go_enter Tryd.func18, Tryd.ntmps18
      go_wp2_with (first
        | (go_at_call 30; refine HP.out.mono ?_; rintro e w' ⟨rfl, rfl⟩)
        | (go_at_call 31; refine HI.out.mono ?_; rintro e w' ⟨u, N, rfl, hB⟩; have HB : Hid (Below _ _ w') := hB; clear hB))
      go_ret2
      exact ⟨rfl, HB.out⟩
end Go.Proofs.YtohkpihjkaffoaaDoor
