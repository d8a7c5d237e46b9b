/-
  Murmur: the last bytes laid over (carried over).
-/
import Derived.Test.YtfkhcgkobffpiaaMuA
namespace Go.Proofs.Ytfkhcgkobffpiaa
namespace Mur
open Go.RowKit
set_option linter.unusedVariables false

/-- A block, and what is behind it, with all that stands around them as one variable. -/
theorem wp_fall {P : Program} {id : Nat} {c d : Code} {Q : Exit → Act → World → Prop} {a : Act} {w : World}
    (h : ∀ (K : Act → World → Prop) (QQ : Exit → Act → World → Prop), (∀ a w, d.wp P Q a w → K a w) → (∀ a w, K a w → QQ (.exit id) a w) →
      (∀ j a w, j ≠ id → Q (.exit j) a w → QQ (.exit j) a w) → (∀ a w, K a w → QQ .normal a w) → c.wp P QQ a w) : (Code.seq (.block id c) d).wp P Q a w := by
  refine wp_seq_k (fun K hK => wp_block ?_)
  refine h K _ hK ?_ ?_ ?_
  · intro a w hk; simp only [Exit.inBlock, if_true]; exact hk
  · intro j a w hj hq; simp only [Exit.inBlock, hj, if_false]; exact hq
  · intro a w hk; exact hk

theorem wp_blk {P : Program} {id : Nat} {c : Code} {K : Act → World → Prop} {Q : Exit → Act → World → Prop} {a : Act} {w : World}
    (h : ∀ (QQ : Exit → Act → World → Prop), (∀ a w, K a w → QQ (.exit id) a w) → c.wp P QQ a w) : (Code.block id c).wp P (Exit.then K Q) a w := by
  refine wp_block (h _ ?_)
  intro a w hk; simp only [Exit.inBlock, if_true]; exact hk

theorem layK_top (f : Nat → Int) (n : Nat) (h : 8 ≤ n) : layK f n = layK f 8 := by
  induction n with
  | zero => omega
  | succ n ih =>
    by_cases e : n = 7
    · subst e; rfl
    · have hn : ¬ n < 8 := by omega
      simp only [layK]
      rw [if_neg hn]
      exact ih (by omega)

set_option maxRecDepth 20000 in
set_option maxHeartbeats 2000000 in
theorem ovar_0 (b off cap : Nat) (w : World) (hm : cap ≤ maxLen) (hc : 0 ≤ cap)
    :
    Calls Try.prog 34 #[.slice (some ⟨b, off, none⟩) 0 cap] w fun e w' => e = .returned (.tuple #[.int .u64 0, .int .u64 0]) ∧ w' = w := by
  go_enter Try.func34, Try.ntmps34
  refine wp_seq_k (fun K0 hK0 => ?_)
  have HK0 : Hid _ := hK0
  clear hK0
  go_wp2
  refine HK0.out _ _ ?_
  refine wp_seq_k (fun K1 hK1 => ?_)
  refine wp_seq_k (fun K2 hK2 => ?_)
  have HK2 : Hid _ := hK2
  clear hK2 HK0
  go_wp2
  refine HK2.out _ _ ?_
  clear HK2
  refine wp_blk (fun Q0 he0 => ?_)
  refine wp_fall (fun J15 Q15 hk15 he15 hn15 hf15 => ?_)
  refine wp_fall (fun J14 Q14 hk14 he14 hn14 hf14 => ?_)
  refine wp_fall (fun J13 Q13 hk13 he13 hn13 hf13 => ?_)
  refine wp_fall (fun J12 Q12 hk12 he12 hn12 hf12 => ?_)
  refine wp_fall (fun J11 Q11 hk11 he11 hn11 hf11 => ?_)
  refine wp_fall (fun J10 Q10 hk10 he10 hn10 hf10 => ?_)
  refine wp_fall (fun J9 Q9 hk9 he9 hn9 hf9 => ?_)
  refine wp_fall (fun J8 Q8 hk8 he8 hn8 hf8 => ?_)
  refine wp_fall (fun J7 Q7 hk7 he7 hn7 hf7 => ?_)
  refine wp_fall (fun J6 Q6 hk6 he6 hn6 hf6 => ?_)
  refine wp_fall (fun J5 Q5 hk5 he5 hn5 hf5 => ?_)
  refine wp_fall (fun J4 Q4 hk4 he4 hn4 hf4 => ?_)
  refine wp_fall (fun J3 Q3 hk3 he3 hn3 hf3 => ?_)
  refine wp_fall (fun J2 Q2 hk2 he2 hn2 hf2 => ?_)
  refine wp_fall (fun J1 Q1 hk1 he1 hn1 hf1 => ?_)
  have HN1 : Hid _ := hn1
  have HE1 : Hid _ := he1
  have HN2 : Hid _ := hn2
  have HE2 : Hid _ := he2
  have HN3 : Hid _ := hn3
  have HE3 : Hid _ := he3
  have HN4 : Hid _ := hn4
  have HE4 : Hid _ := he4
  have HN5 : Hid _ := hn5
  have HE5 : Hid _ := he5
  have HN6 : Hid _ := hn6
  have HE6 : Hid _ := he6
  have HN7 : Hid _ := hn7
  have HE7 : Hid _ := he7
  have HN8 : Hid _ := hn8
  have HE8 : Hid _ := he8
  have HN9 : Hid _ := hn9
  have HE9 : Hid _ := he9
  have HN10 : Hid _ := hn10
  have HE10 : Hid _ := he10
  have HN11 : Hid _ := hn11
  have HE11 : Hid _ := he11
  have HN12 : Hid _ := hn12
  have HE12 : Hid _ := he12
  have HN13 : Hid _ := hn13
  have HE13 : Hid _ := he13
  have HN14 : Hid _ := hn14
  have HE14 : Hid _ := he14
  have HN15 : Hid _ := hn15
  have HE15 : Hid _ := he15
  clear hn1 he1 hn2 he2 hn3 he3 hn4 he4 hn5 he5 hn6 he6 hn7 he7 hn8 he8 hn9 he9 hn10 he10 hn11 he11 hn12 he12 hn13 he13 hn14 he14 hn15 he15
  go_wp2
  refine HN1.out _ _ _ (by decide) ?_
  refine HN2.out _ _ _ (by decide) ?_
  refine HN3.out _ _ _ (by decide) ?_
  refine HN4.out _ _ _ (by decide) ?_
  refine HN5.out _ _ _ (by decide) ?_
  refine HN6.out _ _ _ (by decide) ?_
  refine HN7.out _ _ _ (by decide) ?_
  refine HN8.out _ _ _ (by decide) ?_
  refine HN9.out _ _ _ (by decide) ?_
  refine HN10.out _ _ _ (by decide) ?_
  refine HN11.out _ _ _ (by decide) ?_
  refine HN12.out _ _ _ (by decide) ?_
  refine HN13.out _ _ _ (by decide) ?_
  refine HN14.out _ _ _ (by decide) ?_
  refine HN15.out _ _ _ (by decide) ?_
  go_wp2
  go_ret2
  exact ⟨rfl, rfl⟩

set_option maxRecDepth 20000 in
set_option maxHeartbeats 2000000 in
theorem ovar_1 (b off cap : Nat) (z0 s0 l0 p0 : Int) (w : World) (hm : cap ≤ maxLen) (hc : 1 ≤ cap)
    (c0 : w.cell? ⟨b, off, none⟩ = some (.int .u8 z0)) (hs0 : sgd z0 = l0) (hx0 : bits .xor .u64 0 l0 = p0) :
    Calls Try.prog 34 #[.slice (some ⟨b, off, none⟩) 1 cap] w fun e w' => e = .returned (.tuple #[.int .u64 p0, .int .u64 0]) ∧ w' = w := by
  go_enter Try.func34, Try.ntmps34
  refine wp_seq_k (fun K0 hK0 => ?_)
  have HK0 : Hid _ := hK0
  clear hK0
  go_wp2
  refine HK0.out _ _ ?_
  refine wp_seq_k (fun K1 hK1 => ?_)
  refine wp_seq_k (fun K2 hK2 => ?_)
  have HK2 : Hid _ := hK2
  clear hK2 HK0
  go_wp2
  refine HK2.out _ _ ?_
  clear HK2
  refine wp_blk (fun Q0 he0 => ?_)
  refine wp_fall (fun J15 Q15 hk15 he15 hn15 hf15 => ?_)
  refine wp_fall (fun J14 Q14 hk14 he14 hn14 hf14 => ?_)
  refine wp_fall (fun J13 Q13 hk13 he13 hn13 hf13 => ?_)
  refine wp_fall (fun J12 Q12 hk12 he12 hn12 hf12 => ?_)
  refine wp_fall (fun J11 Q11 hk11 he11 hn11 hf11 => ?_)
  refine wp_fall (fun J10 Q10 hk10 he10 hn10 hf10 => ?_)
  refine wp_fall (fun J9 Q9 hk9 he9 hn9 hf9 => ?_)
  refine wp_fall (fun J8 Q8 hk8 he8 hn8 hf8 => ?_)
  refine wp_fall (fun J7 Q7 hk7 he7 hn7 hf7 => ?_)
  refine wp_fall (fun J6 Q6 hk6 he6 hn6 hf6 => ?_)
  refine wp_fall (fun J5 Q5 hk5 he5 hn5 hf5 => ?_)
  refine wp_fall (fun J4 Q4 hk4 he4 hn4 hf4 => ?_)
  refine wp_fall (fun J3 Q3 hk3 he3 hn3 hf3 => ?_)
  refine wp_fall (fun J2 Q2 hk2 he2 hn2 hf2 => ?_)
  refine wp_fall (fun J1 Q1 hk1 he1 hn1 hf1 => ?_)
  have HN1 : Hid _ := hn1
  have HE1 : Hid _ := he1
  have HN2 : Hid _ := hn2
  have HE2 : Hid _ := he2
  have HN3 : Hid _ := hn3
  have HE3 : Hid _ := he3
  have HN4 : Hid _ := hn4
  have HE4 : Hid _ := he4
  have HN5 : Hid _ := hn5
  have HE5 : Hid _ := he5
  have HN6 : Hid _ := hn6
  have HE6 : Hid _ := he6
  have HN7 : Hid _ := hn7
  have HE7 : Hid _ := he7
  have HN8 : Hid _ := hn8
  have HE8 : Hid _ := he8
  have HN9 : Hid _ := hn9
  have HE9 : Hid _ := he9
  have HN10 : Hid _ := hn10
  have HE10 : Hid _ := he10
  have HN11 : Hid _ := hn11
  have HE11 : Hid _ := he11
  have HN12 : Hid _ := hn12
  have HE12 : Hid _ := he12
  have HN13 : Hid _ := hn13
  have HE13 : Hid _ := he13
  have HN14 : Hid _ := hn14
  have HE14 : Hid _ := he14
  have HN15 : Hid _ := hn15
  have HE15 : Hid _ := he15
  clear hn1 he1 hn2 he2 hn3 he3 hn4 he4 hn5 he5 hn6 he6 hn7 he7 hn8 he8 hn9 he9 hn10 he10 hn11 he11 hn12 he12 hn13 he13 hn14 he14 hn15 he15
  go_wp2
  refine HN1.out _ _ _ (by decide) ?_
  refine HN2.out _ _ _ (by decide) ?_
  refine HN3.out _ _ _ (by decide) ?_
  refine HN4.out _ _ _ (by decide) ?_
  refine HN5.out _ _ _ (by decide) ?_
  refine HN6.out _ _ _ (by decide) ?_
  refine HN7.out _ _ _ (by decide) ?_
  refine HN8.out _ _ _ (by decide) ?_
  refine HN9.out _ _ _ (by decide) ?_
  refine HN10.out _ _ _ (by decide) ?_
  refine HN11.out _ _ _ (by decide) ?_
  refine HN12.out _ _ _ (by decide) ?_
  refine HN13.out _ _ _ (by decide) ?_
  refine HN14.out _ _ _ (by decide) ?_
  refine HE15.out _ _ ?_
  go_wp2_with (go_at_call 40; refine (signed_any _ _).mono ?_; rintro e w' ⟨rfl, rfl⟩)
  go_ret2
  exact ⟨rfl, rfl⟩

set_option maxRecDepth 20000 in
set_option maxHeartbeats 2000000 in
theorem ovar_2 (b off cap : Nat) (z0 s0 l0 p0 z1 s1 l1 p1 : Int) (w : World) (hm : cap ≤ maxLen) (hc : 2 ≤ cap)
    (c0 : w.cell? ⟨b, off, none⟩ = some (.int .u8 z0)) (hs0 : sgd z0 = l0) (hx0 : bits .xor .u64 p1 l0 = p0) (c1 : w.cell? ⟨b, off + 1, none⟩ = some (.int .u8 z1)) (hs1 : sgd z1 = s1) (hl1 : IntKind.u64.wrap (s1 * 256) = l1) (hx1 : bits .xor .u64 0 l1 = p1) :
    Calls Try.prog 34 #[.slice (some ⟨b, off, none⟩) 2 cap] w fun e w' => e = .returned (.tuple #[.int .u64 p0, .int .u64 0]) ∧ w' = w := by
  go_enter Try.func34, Try.ntmps34
  refine wp_seq_k (fun K0 hK0 => ?_)
  have HK0 : Hid _ := hK0
  clear hK0
  go_wp2
  refine HK0.out _ _ ?_
  refine wp_seq_k (fun K1 hK1 => ?_)
  refine wp_seq_k (fun K2 hK2 => ?_)
  have HK2 : Hid _ := hK2
  clear hK2 HK0
  go_wp2
  refine HK2.out _ _ ?_
  clear HK2
  refine wp_blk (fun Q0 he0 => ?_)
  refine wp_fall (fun J15 Q15 hk15 he15 hn15 hf15 => ?_)
  refine wp_fall (fun J14 Q14 hk14 he14 hn14 hf14 => ?_)
  refine wp_fall (fun J13 Q13 hk13 he13 hn13 hf13 => ?_)
  refine wp_fall (fun J12 Q12 hk12 he12 hn12 hf12 => ?_)
  refine wp_fall (fun J11 Q11 hk11 he11 hn11 hf11 => ?_)
  refine wp_fall (fun J10 Q10 hk10 he10 hn10 hf10 => ?_)
  refine wp_fall (fun J9 Q9 hk9 he9 hn9 hf9 => ?_)
  refine wp_fall (fun J8 Q8 hk8 he8 hn8 hf8 => ?_)
  refine wp_fall (fun J7 Q7 hk7 he7 hn7 hf7 => ?_)
  refine wp_fall (fun J6 Q6 hk6 he6 hn6 hf6 => ?_)
  refine wp_fall (fun J5 Q5 hk5 he5 hn5 hf5 => ?_)
  refine wp_fall (fun J4 Q4 hk4 he4 hn4 hf4 => ?_)
  refine wp_fall (fun J3 Q3 hk3 he3 hn3 hf3 => ?_)
  refine wp_fall (fun J2 Q2 hk2 he2 hn2 hf2 => ?_)
  refine wp_fall (fun J1 Q1 hk1 he1 hn1 hf1 => ?_)
  have HN1 : Hid _ := hn1
  have HE1 : Hid _ := he1
  have HN2 : Hid _ := hn2
  have HE2 : Hid _ := he2
  have HN3 : Hid _ := hn3
  have HE3 : Hid _ := he3
  have HN4 : Hid _ := hn4
  have HE4 : Hid _ := he4
  have HN5 : Hid _ := hn5
  have HE5 : Hid _ := he5
  have HN6 : Hid _ := hn6
  have HE6 : Hid _ := he6
  have HN7 : Hid _ := hn7
  have HE7 : Hid _ := he7
  have HN8 : Hid _ := hn8
  have HE8 : Hid _ := he8
  have HN9 : Hid _ := hn9
  have HE9 : Hid _ := he9
  have HN10 : Hid _ := hn10
  have HE10 : Hid _ := he10
  have HN11 : Hid _ := hn11
  have HE11 : Hid _ := he11
  have HN12 : Hid _ := hn12
  have HE12 : Hid _ := he12
  have HN13 : Hid _ := hn13
  have HE13 : Hid _ := he13
  have HN14 : Hid _ := hn14
  have HE14 : Hid _ := he14
  have HN15 : Hid _ := hn15
  have HE15 : Hid _ := he15
  clear hn1 he1 hn2 he2 hn3 he3 hn4 he4 hn5 he5 hn6 he6 hn7 he7 hn8 he8 hn9 he9 hn10 he10 hn11 he11 hn12 he12 hn13 he13 hn14 he14 hn15 he15
  go_wp2
  refine HN1.out _ _ _ (by decide) ?_
  refine HN2.out _ _ _ (by decide) ?_
  refine HN3.out _ _ _ (by decide) ?_
  refine HN4.out _ _ _ (by decide) ?_
  refine HN5.out _ _ _ (by decide) ?_
  refine HN6.out _ _ _ (by decide) ?_
  refine HN7.out _ _ _ (by decide) ?_
  refine HN8.out _ _ _ (by decide) ?_
  refine HN9.out _ _ _ (by decide) ?_
  refine HN10.out _ _ _ (by decide) ?_
  refine HN11.out _ _ _ (by decide) ?_
  refine HN12.out _ _ _ (by decide) ?_
  refine HN13.out _ _ _ (by decide) ?_
  refine HE14.out _ _ ?_
  go_wp2_with (go_at_call 40; refine (signed_any _ _).mono ?_; rintro e w' ⟨rfl, rfl⟩)
  go_ret2
  exact ⟨rfl, rfl⟩

set_option maxRecDepth 20000 in
set_option maxHeartbeats 2000000 in
theorem ovar_3 (b off cap : Nat) (z0 s0 l0 p0 z1 s1 l1 p1 z2 s2 l2 p2 : Int) (w : World) (hm : cap ≤ maxLen) (hc : 3 ≤ cap)
    (c0 : w.cell? ⟨b, off, none⟩ = some (.int .u8 z0)) (hs0 : sgd z0 = l0) (hx0 : bits .xor .u64 p1 l0 = p0) (c1 : w.cell? ⟨b, off + 1, none⟩ = some (.int .u8 z1)) (hs1 : sgd z1 = s1) (hl1 : IntKind.u64.wrap (s1 * 256) = l1) (hx1 : bits .xor .u64 p2 l1 = p1) (c2 : w.cell? ⟨b, off + 2, none⟩ = some (.int .u8 z2)) (hs2 : sgd z2 = s2) (hl2 : IntKind.u64.wrap (s2 * 65536) = l2) (hx2 : bits .xor .u64 0 l2 = p2) :
    Calls Try.prog 34 #[.slice (some ⟨b, off, none⟩) 3 cap] w fun e w' => e = .returned (.tuple #[.int .u64 p0, .int .u64 0]) ∧ w' = w := by
  go_enter Try.func34, Try.ntmps34
  refine wp_seq_k (fun K0 hK0 => ?_)
  have HK0 : Hid _ := hK0
  clear hK0
  go_wp2
  refine HK0.out _ _ ?_
  refine wp_seq_k (fun K1 hK1 => ?_)
  refine wp_seq_k (fun K2 hK2 => ?_)
  have HK2 : Hid _ := hK2
  clear hK2 HK0
  go_wp2
  refine HK2.out _ _ ?_
  clear HK2
  refine wp_blk (fun Q0 he0 => ?_)
  refine wp_fall (fun J15 Q15 hk15 he15 hn15 hf15 => ?_)
  refine wp_fall (fun J14 Q14 hk14 he14 hn14 hf14 => ?_)
  refine wp_fall (fun J13 Q13 hk13 he13 hn13 hf13 => ?_)
  refine wp_fall (fun J12 Q12 hk12 he12 hn12 hf12 => ?_)
  refine wp_fall (fun J11 Q11 hk11 he11 hn11 hf11 => ?_)
  refine wp_fall (fun J10 Q10 hk10 he10 hn10 hf10 => ?_)
  refine wp_fall (fun J9 Q9 hk9 he9 hn9 hf9 => ?_)
  refine wp_fall (fun J8 Q8 hk8 he8 hn8 hf8 => ?_)
  refine wp_fall (fun J7 Q7 hk7 he7 hn7 hf7 => ?_)
  refine wp_fall (fun J6 Q6 hk6 he6 hn6 hf6 => ?_)
  refine wp_fall (fun J5 Q5 hk5 he5 hn5 hf5 => ?_)
  refine wp_fall (fun J4 Q4 hk4 he4 hn4 hf4 => ?_)
  refine wp_fall (fun J3 Q3 hk3 he3 hn3 hf3 => ?_)
  refine wp_fall (fun J2 Q2 hk2 he2 hn2 hf2 => ?_)
  refine wp_fall (fun J1 Q1 hk1 he1 hn1 hf1 => ?_)
  have HN1 : Hid _ := hn1
  have HE1 : Hid _ := he1
  have HN2 : Hid _ := hn2
  have HE2 : Hid _ := he2
  have HN3 : Hid _ := hn3
  have HE3 : Hid _ := he3
  have HN4 : Hid _ := hn4
  have HE4 : Hid _ := he4
  have HN5 : Hid _ := hn5
  have HE5 : Hid _ := he5
  have HN6 : Hid _ := hn6
  have HE6 : Hid _ := he6
  have HN7 : Hid _ := hn7
  have HE7 : Hid _ := he7
  have HN8 : Hid _ := hn8
  have HE8 : Hid _ := he8
  have HN9 : Hid _ := hn9
  have HE9 : Hid _ := he9
  have HN10 : Hid _ := hn10
  have HE10 : Hid _ := he10
  have HN11 : Hid _ := hn11
  have HE11 : Hid _ := he11
  have HN12 : Hid _ := hn12
  have HE12 : Hid _ := he12
  have HN13 : Hid _ := hn13
  have HE13 : Hid _ := he13
  have HN14 : Hid _ := hn14
  have HE14 : Hid _ := he14
  have HN15 : Hid _ := hn15
  have HE15 : Hid _ := he15
  clear hn1 he1 hn2 he2 hn3 he3 hn4 he4 hn5 he5 hn6 he6 hn7 he7 hn8 he8 hn9 he9 hn10 he10 hn11 he11 hn12 he12 hn13 he13 hn14 he14 hn15 he15
  go_wp2
  refine HN1.out _ _ _ (by decide) ?_
  refine HN2.out _ _ _ (by decide) ?_
  refine HN3.out _ _ _ (by decide) ?_
  refine HN4.out _ _ _ (by decide) ?_
  refine HN5.out _ _ _ (by decide) ?_
  refine HN6.out _ _ _ (by decide) ?_
  refine HN7.out _ _ _ (by decide) ?_
  refine HN8.out _ _ _ (by decide) ?_
  refine HN9.out _ _ _ (by decide) ?_
  refine HN10.out _ _ _ (by decide) ?_
  refine HN11.out _ _ _ (by decide) ?_
  refine HN12.out _ _ _ (by decide) ?_
  refine HE13.out _ _ ?_
  go_wp2_with (go_at_call 40; refine (signed_any _ _).mono ?_; rintro e w' ⟨rfl, rfl⟩)
  go_ret2
  exact ⟨rfl, rfl⟩

set_option maxRecDepth 20000 in
set_option maxHeartbeats 2000000 in
theorem ovar_4 (b off cap : Nat) (z0 s0 l0 p0 z1 s1 l1 p1 z2 s2 l2 p2 z3 s3 l3 p3 : Int) (w : World) (hm : cap ≤ maxLen) (hc : 4 ≤ cap)
    (c0 : w.cell? ⟨b, off, none⟩ = some (.int .u8 z0)) (hs0 : sgd z0 = l0) (hx0 : bits .xor .u64 p1 l0 = p0) (c1 : w.cell? ⟨b, off + 1, none⟩ = some (.int .u8 z1)) (hs1 : sgd z1 = s1) (hl1 : IntKind.u64.wrap (s1 * 256) = l1) (hx1 : bits .xor .u64 p2 l1 = p1) (c2 : w.cell? ⟨b, off + 2, none⟩ = some (.int .u8 z2)) (hs2 : sgd z2 = s2) (hl2 : IntKind.u64.wrap (s2 * 65536) = l2) (hx2 : bits .xor .u64 p3 l2 = p2) (c3 : w.cell? ⟨b, off + 3, none⟩ = some (.int .u8 z3)) (hs3 : sgd z3 = s3) (hl3 : IntKind.u64.wrap (s3 * 16777216) = l3) (hx3 : bits .xor .u64 0 l3 = p3) :
    Calls Try.prog 34 #[.slice (some ⟨b, off, none⟩) 4 cap] w fun e w' => e = .returned (.tuple #[.int .u64 p0, .int .u64 0]) ∧ w' = w := by
  go_enter Try.func34, Try.ntmps34
  refine wp_seq_k (fun K0 hK0 => ?_)
  have HK0 : Hid _ := hK0
  clear hK0
  go_wp2
  refine HK0.out _ _ ?_
  refine wp_seq_k (fun K1 hK1 => ?_)
  refine wp_seq_k (fun K2 hK2 => ?_)
  have HK2 : Hid _ := hK2
  clear hK2 HK0
  go_wp2
  refine HK2.out _ _ ?_
  clear HK2
  refine wp_blk (fun Q0 he0 => ?_)
  refine wp_fall (fun J15 Q15 hk15 he15 hn15 hf15 => ?_)
  refine wp_fall (fun J14 Q14 hk14 he14 hn14 hf14 => ?_)
  refine wp_fall (fun J13 Q13 hk13 he13 hn13 hf13 => ?_)
  refine wp_fall (fun J12 Q12 hk12 he12 hn12 hf12 => ?_)
  refine wp_fall (fun J11 Q11 hk11 he11 hn11 hf11 => ?_)
  refine wp_fall (fun J10 Q10 hk10 he10 hn10 hf10 => ?_)
  refine wp_fall (fun J9 Q9 hk9 he9 hn9 hf9 => ?_)
  refine wp_fall (fun J8 Q8 hk8 he8 hn8 hf8 => ?_)
  refine wp_fall (fun J7 Q7 hk7 he7 hn7 hf7 => ?_)
  refine wp_fall (fun J6 Q6 hk6 he6 hn6 hf6 => ?_)
  refine wp_fall (fun J5 Q5 hk5 he5 hn5 hf5 => ?_)
  refine wp_fall (fun J4 Q4 hk4 he4 hn4 hf4 => ?_)
  refine wp_fall (fun J3 Q3 hk3 he3 hn3 hf3 => ?_)
  refine wp_fall (fun J2 Q2 hk2 he2 hn2 hf2 => ?_)
  refine wp_fall (fun J1 Q1 hk1 he1 hn1 hf1 => ?_)
  have HN1 : Hid _ := hn1
  have HE1 : Hid _ := he1
  have HN2 : Hid _ := hn2
  have HE2 : Hid _ := he2
  have HN3 : Hid _ := hn3
  have HE3 : Hid _ := he3
  have HN4 : Hid _ := hn4
  have HE4 : Hid _ := he4
  have HN5 : Hid _ := hn5
  have HE5 : Hid _ := he5
  have HN6 : Hid _ := hn6
  have HE6 : Hid _ := he6
  have HN7 : Hid _ := hn7
  have HE7 : Hid _ := he7
  have HN8 : Hid _ := hn8
  have HE8 : Hid _ := he8
  have HN9 : Hid _ := hn9
  have HE9 : Hid _ := he9
  have HN10 : Hid _ := hn10
  have HE10 : Hid _ := he10
  have HN11 : Hid _ := hn11
  have HE11 : Hid _ := he11
  have HN12 : Hid _ := hn12
  have HE12 : Hid _ := he12
  have HN13 : Hid _ := hn13
  have HE13 : Hid _ := he13
  have HN14 : Hid _ := hn14
  have HE14 : Hid _ := he14
  have HN15 : Hid _ := hn15
  have HE15 : Hid _ := he15
  clear hn1 he1 hn2 he2 hn3 he3 hn4 he4 hn5 he5 hn6 he6 hn7 he7 hn8 he8 hn9 he9 hn10 he10 hn11 he11 hn12 he12 hn13 he13 hn14 he14 hn15 he15
  go_wp2
  refine HN1.out _ _ _ (by decide) ?_
  refine HN2.out _ _ _ (by decide) ?_
  refine HN3.out _ _ _ (by decide) ?_
  refine HN4.out _ _ _ (by decide) ?_
  refine HN5.out _ _ _ (by decide) ?_
  refine HN6.out _ _ _ (by decide) ?_
  refine HN7.out _ _ _ (by decide) ?_
  refine HN8.out _ _ _ (by decide) ?_
  refine HN9.out _ _ _ (by decide) ?_
  refine HN10.out _ _ _ (by decide) ?_
  refine HN11.out _ _ _ (by decide) ?_
  refine HE12.out _ _ ?_
  go_wp2_with (go_at_call 40; refine (signed_any _ _).mono ?_; rintro e w' ⟨rfl, rfl⟩)
  go_ret2
  exact ⟨rfl, rfl⟩

set_option maxRecDepth 20000 in
set_option maxHeartbeats 2000000 in
theorem ovar_5 (b off cap : Nat) (z0 s0 l0 p0 z1 s1 l1 p1 z2 s2 l2 p2 z3 s3 l3 p3 z4 s4 l4 p4 : Int) (w : World) (hm : cap ≤ maxLen) (hc : 5 ≤ cap)
    (c0 : w.cell? ⟨b, off, none⟩ = some (.int .u8 z0)) (hs0 : sgd z0 = l0) (hx0 : bits .xor .u64 p1 l0 = p0) (c1 : w.cell? ⟨b, off + 1, none⟩ = some (.int .u8 z1)) (hs1 : sgd z1 = s1) (hl1 : IntKind.u64.wrap (s1 * 256) = l1) (hx1 : bits .xor .u64 p2 l1 = p1) (c2 : w.cell? ⟨b, off + 2, none⟩ = some (.int .u8 z2)) (hs2 : sgd z2 = s2) (hl2 : IntKind.u64.wrap (s2 * 65536) = l2) (hx2 : bits .xor .u64 p3 l2 = p2) (c3 : w.cell? ⟨b, off + 3, none⟩ = some (.int .u8 z3)) (hs3 : sgd z3 = s3) (hl3 : IntKind.u64.wrap (s3 * 16777216) = l3) (hx3 : bits .xor .u64 p4 l3 = p3) (c4 : w.cell? ⟨b, off + 4, none⟩ = some (.int .u8 z4)) (hs4 : sgd z4 = s4) (hl4 : IntKind.u64.wrap (s4 * 4294967296) = l4) (hx4 : bits .xor .u64 0 l4 = p4) :
    Calls Try.prog 34 #[.slice (some ⟨b, off, none⟩) 5 cap] w fun e w' => e = .returned (.tuple #[.int .u64 p0, .int .u64 0]) ∧ w' = w := by
  go_enter Try.func34, Try.ntmps34
  refine wp_seq_k (fun K0 hK0 => ?_)
  have HK0 : Hid _ := hK0
  clear hK0
  go_wp2
  refine HK0.out _ _ ?_
  refine wp_seq_k (fun K1 hK1 => ?_)
  refine wp_seq_k (fun K2 hK2 => ?_)
  have HK2 : Hid _ := hK2
  clear hK2 HK0
  go_wp2
  refine HK2.out _ _ ?_
  clear HK2
  refine wp_blk (fun Q0 he0 => ?_)
  refine wp_fall (fun J15 Q15 hk15 he15 hn15 hf15 => ?_)
  refine wp_fall (fun J14 Q14 hk14 he14 hn14 hf14 => ?_)
  refine wp_fall (fun J13 Q13 hk13 he13 hn13 hf13 => ?_)
  refine wp_fall (fun J12 Q12 hk12 he12 hn12 hf12 => ?_)
  refine wp_fall (fun J11 Q11 hk11 he11 hn11 hf11 => ?_)
  refine wp_fall (fun J10 Q10 hk10 he10 hn10 hf10 => ?_)
  refine wp_fall (fun J9 Q9 hk9 he9 hn9 hf9 => ?_)
  refine wp_fall (fun J8 Q8 hk8 he8 hn8 hf8 => ?_)
  refine wp_fall (fun J7 Q7 hk7 he7 hn7 hf7 => ?_)
  refine wp_fall (fun J6 Q6 hk6 he6 hn6 hf6 => ?_)
  refine wp_fall (fun J5 Q5 hk5 he5 hn5 hf5 => ?_)
  refine wp_fall (fun J4 Q4 hk4 he4 hn4 hf4 => ?_)
  refine wp_fall (fun J3 Q3 hk3 he3 hn3 hf3 => ?_)
  refine wp_fall (fun J2 Q2 hk2 he2 hn2 hf2 => ?_)
  refine wp_fall (fun J1 Q1 hk1 he1 hn1 hf1 => ?_)
  have HN1 : Hid _ := hn1
  have HE1 : Hid _ := he1
  have HN2 : Hid _ := hn2
  have HE2 : Hid _ := he2
  have HN3 : Hid _ := hn3
  have HE3 : Hid _ := he3
  have HN4 : Hid _ := hn4
  have HE4 : Hid _ := he4
  have HN5 : Hid _ := hn5
  have HE5 : Hid _ := he5
  have HN6 : Hid _ := hn6
  have HE6 : Hid _ := he6
  have HN7 : Hid _ := hn7
  have HE7 : Hid _ := he7
  have HN8 : Hid _ := hn8
  have HE8 : Hid _ := he8
  have HN9 : Hid _ := hn9
  have HE9 : Hid _ := he9
  have HN10 : Hid _ := hn10
  have HE10 : Hid _ := he10
  have HN11 : Hid _ := hn11
  have HE11 : Hid _ := he11
  have HN12 : Hid _ := hn12
  have HE12 : Hid _ := he12
  have HN13 : Hid _ := hn13
  have HE13 : Hid _ := he13
  have HN14 : Hid _ := hn14
  have HE14 : Hid _ := he14
  have HN15 : Hid _ := hn15
  have HE15 : Hid _ := he15
  clear hn1 he1 hn2 he2 hn3 he3 hn4 he4 hn5 he5 hn6 he6 hn7 he7 hn8 he8 hn9 he9 hn10 he10 hn11 he11 hn12 he12 hn13 he13 hn14 he14 hn15 he15
  go_wp2
  refine HN1.out _ _ _ (by decide) ?_
  refine HN2.out _ _ _ (by decide) ?_
  refine HN3.out _ _ _ (by decide) ?_
  refine HN4.out _ _ _ (by decide) ?_
  refine HN5.out _ _ _ (by decide) ?_
  refine HN6.out _ _ _ (by decide) ?_
  refine HN7.out _ _ _ (by decide) ?_
  refine HN8.out _ _ _ (by decide) ?_
  refine HN9.out _ _ _ (by decide) ?_
  refine HN10.out _ _ _ (by decide) ?_
  refine HE11.out _ _ ?_
  go_wp2_with (go_at_call 40; refine (signed_any _ _).mono ?_; rintro e w' ⟨rfl, rfl⟩)
  go_ret2
  exact ⟨rfl, rfl⟩

set_option maxRecDepth 20000 in
set_option maxHeartbeats 2000000 in
theorem ovar_6 (b off cap : Nat) (z0 s0 l0 p0 z1 s1 l1 p1 z2 s2 l2 p2 z3 s3 l3 p3 z4 s4 l4 p4 z5 s5 l5 p5 : Int) (w : World) (hm : cap ≤ maxLen) (hc : 6 ≤ cap)
    (c0 : w.cell? ⟨b, off, none⟩ = some (.int .u8 z0)) (hs0 : sgd z0 = l0) (hx0 : bits .xor .u64 p1 l0 = p0) (c1 : w.cell? ⟨b, off + 1, none⟩ = some (.int .u8 z1)) (hs1 : sgd z1 = s1) (hl1 : IntKind.u64.wrap (s1 * 256) = l1) (hx1 : bits .xor .u64 p2 l1 = p1) (c2 : w.cell? ⟨b, off + 2, none⟩ = some (.int .u8 z2)) (hs2 : sgd z2 = s2) (hl2 : IntKind.u64.wrap (s2 * 65536) = l2) (hx2 : bits .xor .u64 p3 l2 = p2) (c3 : w.cell? ⟨b, off + 3, none⟩ = some (.int .u8 z3)) (hs3 : sgd z3 = s3) (hl3 : IntKind.u64.wrap (s3 * 16777216) = l3) (hx3 : bits .xor .u64 p4 l3 = p3) (c4 : w.cell? ⟨b, off + 4, none⟩ = some (.int .u8 z4)) (hs4 : sgd z4 = s4) (hl4 : IntKind.u64.wrap (s4 * 4294967296) = l4) (hx4 : bits .xor .u64 p5 l4 = p4) (c5 : w.cell? ⟨b, off + 5, none⟩ = some (.int .u8 z5)) (hs5 : sgd z5 = s5) (hl5 : IntKind.u64.wrap (s5 * 1099511627776) = l5) (hx5 : bits .xor .u64 0 l5 = p5) :
    Calls Try.prog 34 #[.slice (some ⟨b, off, none⟩) 6 cap] w fun e w' => e = .returned (.tuple #[.int .u64 p0, .int .u64 0]) ∧ w' = w := by
  go_enter Try.func34, Try.ntmps34
  refine wp_seq_k (fun K0 hK0 => ?_)
  have HK0 : Hid _ := hK0
  clear hK0
  go_wp2
  refine HK0.out _ _ ?_
  refine wp_seq_k (fun K1 hK1 => ?_)
  refine wp_seq_k (fun K2 hK2 => ?_)
  have HK2 : Hid _ := hK2
  clear hK2 HK0
  go_wp2
  refine HK2.out _ _ ?_
  clear HK2
  refine wp_blk (fun Q0 he0 => ?_)
  refine wp_fall (fun J15 Q15 hk15 he15 hn15 hf15 => ?_)
  refine wp_fall (fun J14 Q14 hk14 he14 hn14 hf14 => ?_)
  refine wp_fall (fun J13 Q13 hk13 he13 hn13 hf13 => ?_)
  refine wp_fall (fun J12 Q12 hk12 he12 hn12 hf12 => ?_)
  refine wp_fall (fun J11 Q11 hk11 he11 hn11 hf11 => ?_)
  refine wp_fall (fun J10 Q10 hk10 he10 hn10 hf10 => ?_)
  refine wp_fall (fun J9 Q9 hk9 he9 hn9 hf9 => ?_)
  refine wp_fall (fun J8 Q8 hk8 he8 hn8 hf8 => ?_)
  refine wp_fall (fun J7 Q7 hk7 he7 hn7 hf7 => ?_)
  refine wp_fall (fun J6 Q6 hk6 he6 hn6 hf6 => ?_)
  refine wp_fall (fun J5 Q5 hk5 he5 hn5 hf5 => ?_)
  refine wp_fall (fun J4 Q4 hk4 he4 hn4 hf4 => ?_)
  refine wp_fall (fun J3 Q3 hk3 he3 hn3 hf3 => ?_)
  refine wp_fall (fun J2 Q2 hk2 he2 hn2 hf2 => ?_)
  refine wp_fall (fun J1 Q1 hk1 he1 hn1 hf1 => ?_)
  have HN1 : Hid _ := hn1
  have HE1 : Hid _ := he1
  have HN2 : Hid _ := hn2
  have HE2 : Hid _ := he2
  have HN3 : Hid _ := hn3
  have HE3 : Hid _ := he3
  have HN4 : Hid _ := hn4
  have HE4 : Hid _ := he4
  have HN5 : Hid _ := hn5
  have HE5 : Hid _ := he5
  have HN6 : Hid _ := hn6
  have HE6 : Hid _ := he6
  have HN7 : Hid _ := hn7
  have HE7 : Hid _ := he7
  have HN8 : Hid _ := hn8
  have HE8 : Hid _ := he8
  have HN9 : Hid _ := hn9
  have HE9 : Hid _ := he9
  have HN10 : Hid _ := hn10
  have HE10 : Hid _ := he10
  have HN11 : Hid _ := hn11
  have HE11 : Hid _ := he11
  have HN12 : Hid _ := hn12
  have HE12 : Hid _ := he12
  have HN13 : Hid _ := hn13
  have HE13 : Hid _ := he13
  have HN14 : Hid _ := hn14
  have HE14 : Hid _ := he14
  have HN15 : Hid _ := hn15
  have HE15 : Hid _ := he15
  clear hn1 he1 hn2 he2 hn3 he3 hn4 he4 hn5 he5 hn6 he6 hn7 he7 hn8 he8 hn9 he9 hn10 he10 hn11 he11 hn12 he12 hn13 he13 hn14 he14 hn15 he15
  go_wp2
  refine HN1.out _ _ _ (by decide) ?_
  refine HN2.out _ _ _ (by decide) ?_
  refine HN3.out _ _ _ (by decide) ?_
  refine HN4.out _ _ _ (by decide) ?_
  refine HN5.out _ _ _ (by decide) ?_
  refine HN6.out _ _ _ (by decide) ?_
  refine HN7.out _ _ _ (by decide) ?_
  refine HN8.out _ _ _ (by decide) ?_
  refine HN9.out _ _ _ (by decide) ?_
  refine HE10.out _ _ ?_
  go_wp2_with (go_at_call 40; refine (signed_any _ _).mono ?_; rintro e w' ⟨rfl, rfl⟩)
  go_ret2
  exact ⟨rfl, rfl⟩

set_option maxRecDepth 20000 in
set_option maxHeartbeats 2000000 in
theorem ovar_7 (b off cap : Nat) (z0 s0 l0 p0 z1 s1 l1 p1 z2 s2 l2 p2 z3 s3 l3 p3 z4 s4 l4 p4 z5 s5 l5 p5 z6 s6 l6 p6 : Int) (w : World) (hm : cap ≤ maxLen) (hc : 7 ≤ cap)
    (c0 : w.cell? ⟨b, off, none⟩ = some (.int .u8 z0)) (hs0 : sgd z0 = l0) (hx0 : bits .xor .u64 p1 l0 = p0) (c1 : w.cell? ⟨b, off + 1, none⟩ = some (.int .u8 z1)) (hs1 : sgd z1 = s1) (hl1 : IntKind.u64.wrap (s1 * 256) = l1) (hx1 : bits .xor .u64 p2 l1 = p1) (c2 : w.cell? ⟨b, off + 2, none⟩ = some (.int .u8 z2)) (hs2 : sgd z2 = s2) (hl2 : IntKind.u64.wrap (s2 * 65536) = l2) (hx2 : bits .xor .u64 p3 l2 = p2) (c3 : w.cell? ⟨b, off + 3, none⟩ = some (.int .u8 z3)) (hs3 : sgd z3 = s3) (hl3 : IntKind.u64.wrap (s3 * 16777216) = l3) (hx3 : bits .xor .u64 p4 l3 = p3) (c4 : w.cell? ⟨b, off + 4, none⟩ = some (.int .u8 z4)) (hs4 : sgd z4 = s4) (hl4 : IntKind.u64.wrap (s4 * 4294967296) = l4) (hx4 : bits .xor .u64 p5 l4 = p4) (c5 : w.cell? ⟨b, off + 5, none⟩ = some (.int .u8 z5)) (hs5 : sgd z5 = s5) (hl5 : IntKind.u64.wrap (s5 * 1099511627776) = l5) (hx5 : bits .xor .u64 p6 l5 = p5) (c6 : w.cell? ⟨b, off + 6, none⟩ = some (.int .u8 z6)) (hs6 : sgd z6 = s6) (hl6 : IntKind.u64.wrap (s6 * 281474976710656) = l6) (hx6 : bits .xor .u64 0 l6 = p6) :
    Calls Try.prog 34 #[.slice (some ⟨b, off, none⟩) 7 cap] w fun e w' => e = .returned (.tuple #[.int .u64 p0, .int .u64 0]) ∧ w' = w := by
  go_enter Try.func34, Try.ntmps34
  refine wp_seq_k (fun K0 hK0 => ?_)
  have HK0 : Hid _ := hK0
  clear hK0
  go_wp2
  refine HK0.out _ _ ?_
  refine wp_seq_k (fun K1 hK1 => ?_)
  refine wp_seq_k (fun K2 hK2 => ?_)
  have HK2 : Hid _ := hK2
  clear hK2 HK0
  go_wp2
  refine HK2.out _ _ ?_
  clear HK2
  refine wp_blk (fun Q0 he0 => ?_)
  refine wp_fall (fun J15 Q15 hk15 he15 hn15 hf15 => ?_)
  refine wp_fall (fun J14 Q14 hk14 he14 hn14 hf14 => ?_)
  refine wp_fall (fun J13 Q13 hk13 he13 hn13 hf13 => ?_)
  refine wp_fall (fun J12 Q12 hk12 he12 hn12 hf12 => ?_)
  refine wp_fall (fun J11 Q11 hk11 he11 hn11 hf11 => ?_)
  refine wp_fall (fun J10 Q10 hk10 he10 hn10 hf10 => ?_)
  refine wp_fall (fun J9 Q9 hk9 he9 hn9 hf9 => ?_)
  refine wp_fall (fun J8 Q8 hk8 he8 hn8 hf8 => ?_)
  refine wp_fall (fun J7 Q7 hk7 he7 hn7 hf7 => ?_)
  refine wp_fall (fun J6 Q6 hk6 he6 hn6 hf6 => ?_)
  refine wp_fall (fun J5 Q5 hk5 he5 hn5 hf5 => ?_)
  refine wp_fall (fun J4 Q4 hk4 he4 hn4 hf4 => ?_)
  refine wp_fall (fun J3 Q3 hk3 he3 hn3 hf3 => ?_)
  refine wp_fall (fun J2 Q2 hk2 he2 hn2 hf2 => ?_)
  refine wp_fall (fun J1 Q1 hk1 he1 hn1 hf1 => ?_)
  have HN1 : Hid _ := hn1
  have HE1 : Hid _ := he1
  have HN2 : Hid _ := hn2
  have HE2 : Hid _ := he2
  have HN3 : Hid _ := hn3
  have HE3 : Hid _ := he3
  have HN4 : Hid _ := hn4
  have HE4 : Hid _ := he4
  have HN5 : Hid _ := hn5
  have HE5 : Hid _ := he5
  have HN6 : Hid _ := hn6
  have HE6 : Hid _ := he6
  have HN7 : Hid _ := hn7
  have HE7 : Hid _ := he7
  have HN8 : Hid _ := hn8
  have HE8 : Hid _ := he8
  have HN9 : Hid _ := hn9
  have HE9 : Hid _ := he9
  have HN10 : Hid _ := hn10
  have HE10 : Hid _ := he10
  have HN11 : Hid _ := hn11
  have HE11 : Hid _ := he11
  have HN12 : Hid _ := hn12
  have HE12 : Hid _ := he12
  have HN13 : Hid _ := hn13
  have HE13 : Hid _ := he13
  have HN14 : Hid _ := hn14
  have HE14 : Hid _ := he14
  have HN15 : Hid _ := hn15
  have HE15 : Hid _ := he15
  clear hn1 he1 hn2 he2 hn3 he3 hn4 he4 hn5 he5 hn6 he6 hn7 he7 hn8 he8 hn9 he9 hn10 he10 hn11 he11 hn12 he12 hn13 he13 hn14 he14 hn15 he15
  go_wp2
  refine HN1.out _ _ _ (by decide) ?_
  refine HN2.out _ _ _ (by decide) ?_
  refine HN3.out _ _ _ (by decide) ?_
  refine HN4.out _ _ _ (by decide) ?_
  refine HN5.out _ _ _ (by decide) ?_
  refine HN6.out _ _ _ (by decide) ?_
  refine HN7.out _ _ _ (by decide) ?_
  refine HN8.out _ _ _ (by decide) ?_
  refine HE9.out _ _ ?_
  go_wp2_with (go_at_call 40; refine (signed_any _ _).mono ?_; rintro e w' ⟨rfl, rfl⟩)
  go_ret2
  exact ⟨rfl, rfl⟩

set_option maxRecDepth 20000 in
set_option maxHeartbeats 2000000 in
theorem ovar_8 (b off cap : Nat) (z0 s0 l0 p0 z1 s1 l1 p1 z2 s2 l2 p2 z3 s3 l3 p3 z4 s4 l4 p4 z5 s5 l5 p5 z6 s6 l6 p6 z7 s7 l7 p7 : Int) (w : World) (hm : cap ≤ maxLen) (hc : 8 ≤ cap)
    (c0 : w.cell? ⟨b, off, none⟩ = some (.int .u8 z0)) (hs0 : sgd z0 = l0) (hx0 : bits .xor .u64 p1 l0 = p0) (c1 : w.cell? ⟨b, off + 1, none⟩ = some (.int .u8 z1)) (hs1 : sgd z1 = s1) (hl1 : IntKind.u64.wrap (s1 * 256) = l1) (hx1 : bits .xor .u64 p2 l1 = p1) (c2 : w.cell? ⟨b, off + 2, none⟩ = some (.int .u8 z2)) (hs2 : sgd z2 = s2) (hl2 : IntKind.u64.wrap (s2 * 65536) = l2) (hx2 : bits .xor .u64 p3 l2 = p2) (c3 : w.cell? ⟨b, off + 3, none⟩ = some (.int .u8 z3)) (hs3 : sgd z3 = s3) (hl3 : IntKind.u64.wrap (s3 * 16777216) = l3) (hx3 : bits .xor .u64 p4 l3 = p3) (c4 : w.cell? ⟨b, off + 4, none⟩ = some (.int .u8 z4)) (hs4 : sgd z4 = s4) (hl4 : IntKind.u64.wrap (s4 * 4294967296) = l4) (hx4 : bits .xor .u64 p5 l4 = p4) (c5 : w.cell? ⟨b, off + 5, none⟩ = some (.int .u8 z5)) (hs5 : sgd z5 = s5) (hl5 : IntKind.u64.wrap (s5 * 1099511627776) = l5) (hx5 : bits .xor .u64 p6 l5 = p5) (c6 : w.cell? ⟨b, off + 6, none⟩ = some (.int .u8 z6)) (hs6 : sgd z6 = s6) (hl6 : IntKind.u64.wrap (s6 * 281474976710656) = l6) (hx6 : bits .xor .u64 p7 l6 = p6) (c7 : w.cell? ⟨b, off + 7, none⟩ = some (.int .u8 z7)) (hs7 : sgd z7 = s7) (hl7 : IntKind.u64.wrap (s7 * 72057594037927936) = l7) (hx7 : bits .xor .u64 0 l7 = p7) :
    Calls Try.prog 34 #[.slice (some ⟨b, off, none⟩) 8 cap] w fun e w' => e = .returned (.tuple #[.int .u64 p0, .int .u64 0]) ∧ w' = w := by
  go_enter Try.func34, Try.ntmps34
  refine wp_seq_k (fun K0 hK0 => ?_)
  have HK0 : Hid _ := hK0
  clear hK0
  go_wp2
  refine HK0.out _ _ ?_
  refine wp_seq_k (fun K1 hK1 => ?_)
  refine wp_seq_k (fun K2 hK2 => ?_)
  have HK2 : Hid _ := hK2
  clear hK2 HK0
  go_wp2
  refine HK2.out _ _ ?_
  clear HK2
  refine wp_blk (fun Q0 he0 => ?_)
  refine wp_fall (fun J15 Q15 hk15 he15 hn15 hf15 => ?_)
  refine wp_fall (fun J14 Q14 hk14 he14 hn14 hf14 => ?_)
  refine wp_fall (fun J13 Q13 hk13 he13 hn13 hf13 => ?_)
  refine wp_fall (fun J12 Q12 hk12 he12 hn12 hf12 => ?_)
  refine wp_fall (fun J11 Q11 hk11 he11 hn11 hf11 => ?_)
  refine wp_fall (fun J10 Q10 hk10 he10 hn10 hf10 => ?_)
  refine wp_fall (fun J9 Q9 hk9 he9 hn9 hf9 => ?_)
  refine wp_fall (fun J8 Q8 hk8 he8 hn8 hf8 => ?_)
  refine wp_fall (fun J7 Q7 hk7 he7 hn7 hf7 => ?_)
  refine wp_fall (fun J6 Q6 hk6 he6 hn6 hf6 => ?_)
  refine wp_fall (fun J5 Q5 hk5 he5 hn5 hf5 => ?_)
  refine wp_fall (fun J4 Q4 hk4 he4 hn4 hf4 => ?_)
  refine wp_fall (fun J3 Q3 hk3 he3 hn3 hf3 => ?_)
  refine wp_fall (fun J2 Q2 hk2 he2 hn2 hf2 => ?_)
  refine wp_fall (fun J1 Q1 hk1 he1 hn1 hf1 => ?_)
  have HN1 : Hid _ := hn1
  have HE1 : Hid _ := he1
  have HN2 : Hid _ := hn2
  have HE2 : Hid _ := he2
  have HN3 : Hid _ := hn3
  have HE3 : Hid _ := he3
  have HN4 : Hid _ := hn4
  have HE4 : Hid _ := he4
  have HN5 : Hid _ := hn5
  have HE5 : Hid _ := he5
  have HN6 : Hid _ := hn6
  have HE6 : Hid _ := he6
  have HN7 : Hid _ := hn7
  have HE7 : Hid _ := he7
  have HN8 : Hid _ := hn8
  have HE8 : Hid _ := he8
  have HN9 : Hid _ := hn9
  have HE9 : Hid _ := he9
  have HN10 : Hid _ := hn10
  have HE10 : Hid _ := he10
  have HN11 : Hid _ := hn11
  have HE11 : Hid _ := he11
  have HN12 : Hid _ := hn12
  have HE12 : Hid _ := he12
  have HN13 : Hid _ := hn13
  have HE13 : Hid _ := he13
  have HN14 : Hid _ := hn14
  have HE14 : Hid _ := he14
  have HN15 : Hid _ := hn15
  have HE15 : Hid _ := he15
  clear hn1 he1 hn2 he2 hn3 he3 hn4 he4 hn5 he5 hn6 he6 hn7 he7 hn8 he8 hn9 he9 hn10 he10 hn11 he11 hn12 he12 hn13 he13 hn14 he14 hn15 he15
  go_wp2
  refine HN1.out _ _ _ (by decide) ?_
  refine HN2.out _ _ _ (by decide) ?_
  refine HN3.out _ _ _ (by decide) ?_
  refine HN4.out _ _ _ (by decide) ?_
  refine HN5.out _ _ _ (by decide) ?_
  refine HN6.out _ _ _ (by decide) ?_
  refine HN7.out _ _ _ (by decide) ?_
  refine HE8.out _ _ ?_
  go_wp2_with (go_at_call 40; refine (signed_any _ _).mono ?_; rintro e w' ⟨rfl, rfl⟩)
  go_ret2
  exact ⟨rfl, rfl⟩

set_option maxRecDepth 20000 in
set_option maxHeartbeats 2000000 in
theorem ovar_9 (b off cap : Nat) (z0 s0 l0 p0 z1 s1 l1 p1 z2 s2 l2 p2 z3 s3 l3 p3 z4 s4 l4 p4 z5 s5 l5 p5 z6 s6 l6 p6 z7 s7 l7 p7 z8 s8 l8 p8 : Int) (w : World) (hm : cap ≤ maxLen) (hc : 9 ≤ cap)
    (c0 : w.cell? ⟨b, off, none⟩ = some (.int .u8 z0)) (hs0 : sgd z0 = l0) (hx0 : bits .xor .u64 p1 l0 = p0) (c1 : w.cell? ⟨b, off + 1, none⟩ = some (.int .u8 z1)) (hs1 : sgd z1 = s1) (hl1 : IntKind.u64.wrap (s1 * 256) = l1) (hx1 : bits .xor .u64 p2 l1 = p1) (c2 : w.cell? ⟨b, off + 2, none⟩ = some (.int .u8 z2)) (hs2 : sgd z2 = s2) (hl2 : IntKind.u64.wrap (s2 * 65536) = l2) (hx2 : bits .xor .u64 p3 l2 = p2) (c3 : w.cell? ⟨b, off + 3, none⟩ = some (.int .u8 z3)) (hs3 : sgd z3 = s3) (hl3 : IntKind.u64.wrap (s3 * 16777216) = l3) (hx3 : bits .xor .u64 p4 l3 = p3) (c4 : w.cell? ⟨b, off + 4, none⟩ = some (.int .u8 z4)) (hs4 : sgd z4 = s4) (hl4 : IntKind.u64.wrap (s4 * 4294967296) = l4) (hx4 : bits .xor .u64 p5 l4 = p4) (c5 : w.cell? ⟨b, off + 5, none⟩ = some (.int .u8 z5)) (hs5 : sgd z5 = s5) (hl5 : IntKind.u64.wrap (s5 * 1099511627776) = l5) (hx5 : bits .xor .u64 p6 l5 = p5) (c6 : w.cell? ⟨b, off + 6, none⟩ = some (.int .u8 z6)) (hs6 : sgd z6 = s6) (hl6 : IntKind.u64.wrap (s6 * 281474976710656) = l6) (hx6 : bits .xor .u64 p7 l6 = p6) (c7 : w.cell? ⟨b, off + 7, none⟩ = some (.int .u8 z7)) (hs7 : sgd z7 = s7) (hl7 : IntKind.u64.wrap (s7 * 72057594037927936) = l7) (hx7 : bits .xor .u64 0 l7 = p7) (c8 : w.cell? ⟨b, off + 8, none⟩ = some (.int .u8 z8)) (hs8 : sgd z8 = l8) (hx8 : bits .xor .u64 0 l8 = p8) :
    Calls Try.prog 34 #[.slice (some ⟨b, off, none⟩) 9 cap] w fun e w' => e = .returned (.tuple #[.int .u64 p0, .int .u64 p8]) ∧ w' = w := by
  go_enter Try.func34, Try.ntmps34
  refine wp_seq_k (fun K0 hK0 => ?_)
  have HK0 : Hid _ := hK0
  clear hK0
  go_wp2
  refine HK0.out _ _ ?_
  refine wp_seq_k (fun K1 hK1 => ?_)
  refine wp_seq_k (fun K2 hK2 => ?_)
  have HK2 : Hid _ := hK2
  clear hK2 HK0
  go_wp2
  refine HK2.out _ _ ?_
  clear HK2
  refine wp_blk (fun Q0 he0 => ?_)
  refine wp_fall (fun J15 Q15 hk15 he15 hn15 hf15 => ?_)
  refine wp_fall (fun J14 Q14 hk14 he14 hn14 hf14 => ?_)
  refine wp_fall (fun J13 Q13 hk13 he13 hn13 hf13 => ?_)
  refine wp_fall (fun J12 Q12 hk12 he12 hn12 hf12 => ?_)
  refine wp_fall (fun J11 Q11 hk11 he11 hn11 hf11 => ?_)
  refine wp_fall (fun J10 Q10 hk10 he10 hn10 hf10 => ?_)
  refine wp_fall (fun J9 Q9 hk9 he9 hn9 hf9 => ?_)
  refine wp_fall (fun J8 Q8 hk8 he8 hn8 hf8 => ?_)
  refine wp_fall (fun J7 Q7 hk7 he7 hn7 hf7 => ?_)
  refine wp_fall (fun J6 Q6 hk6 he6 hn6 hf6 => ?_)
  refine wp_fall (fun J5 Q5 hk5 he5 hn5 hf5 => ?_)
  refine wp_fall (fun J4 Q4 hk4 he4 hn4 hf4 => ?_)
  refine wp_fall (fun J3 Q3 hk3 he3 hn3 hf3 => ?_)
  refine wp_fall (fun J2 Q2 hk2 he2 hn2 hf2 => ?_)
  refine wp_fall (fun J1 Q1 hk1 he1 hn1 hf1 => ?_)
  have HN1 : Hid _ := hn1
  have HE1 : Hid _ := he1
  have HN2 : Hid _ := hn2
  have HE2 : Hid _ := he2
  have HN3 : Hid _ := hn3
  have HE3 : Hid _ := he3
  have HN4 : Hid _ := hn4
  have HE4 : Hid _ := he4
  have HN5 : Hid _ := hn5
  have HE5 : Hid _ := he5
  have HN6 : Hid _ := hn6
  have HE6 : Hid _ := he6
  have HN7 : Hid _ := hn7
  have HE7 : Hid _ := he7
  have HN8 : Hid _ := hn8
  have HE8 : Hid _ := he8
  have HN9 : Hid _ := hn9
  have HE9 : Hid _ := he9
  have HN10 : Hid _ := hn10
  have HE10 : Hid _ := he10
  have HN11 : Hid _ := hn11
  have HE11 : Hid _ := he11
  have HN12 : Hid _ := hn12
  have HE12 : Hid _ := he12
  have HN13 : Hid _ := hn13
  have HE13 : Hid _ := he13
  have HN14 : Hid _ := hn14
  have HE14 : Hid _ := he14
  have HN15 : Hid _ := hn15
  have HE15 : Hid _ := he15
  clear hn1 he1 hn2 he2 hn3 he3 hn4 he4 hn5 he5 hn6 he6 hn7 he7 hn8 he8 hn9 he9 hn10 he10 hn11 he11 hn12 he12 hn13 he13 hn14 he14 hn15 he15
  go_wp2
  refine HN1.out _ _ _ (by decide) ?_
  refine HN2.out _ _ _ (by decide) ?_
  refine HN3.out _ _ _ (by decide) ?_
  refine HN4.out _ _ _ (by decide) ?_
  refine HN5.out _ _ _ (by decide) ?_
  refine HN6.out _ _ _ (by decide) ?_
  refine HE7.out _ _ ?_
  go_wp2_with (go_at_call 40; refine (signed_any _ _).mono ?_; rintro e w' ⟨rfl, rfl⟩)
  go_ret2
  exact ⟨rfl, rfl⟩

set_option maxRecDepth 20000 in
set_option maxHeartbeats 2000000 in
theorem ovar_10 (b off cap : Nat) (z0 s0 l0 p0 z1 s1 l1 p1 z2 s2 l2 p2 z3 s3 l3 p3 z4 s4 l4 p4 z5 s5 l5 p5 z6 s6 l6 p6 z7 s7 l7 p7 z8 s8 l8 p8 z9 s9 l9 p9 : Int) (w : World) (hm : cap ≤ maxLen) (hc : 10 ≤ cap)
    (c0 : w.cell? ⟨b, off, none⟩ = some (.int .u8 z0)) (hs0 : sgd z0 = l0) (hx0 : bits .xor .u64 p1 l0 = p0) (c1 : w.cell? ⟨b, off + 1, none⟩ = some (.int .u8 z1)) (hs1 : sgd z1 = s1) (hl1 : IntKind.u64.wrap (s1 * 256) = l1) (hx1 : bits .xor .u64 p2 l1 = p1) (c2 : w.cell? ⟨b, off + 2, none⟩ = some (.int .u8 z2)) (hs2 : sgd z2 = s2) (hl2 : IntKind.u64.wrap (s2 * 65536) = l2) (hx2 : bits .xor .u64 p3 l2 = p2) (c3 : w.cell? ⟨b, off + 3, none⟩ = some (.int .u8 z3)) (hs3 : sgd z3 = s3) (hl3 : IntKind.u64.wrap (s3 * 16777216) = l3) (hx3 : bits .xor .u64 p4 l3 = p3) (c4 : w.cell? ⟨b, off + 4, none⟩ = some (.int .u8 z4)) (hs4 : sgd z4 = s4) (hl4 : IntKind.u64.wrap (s4 * 4294967296) = l4) (hx4 : bits .xor .u64 p5 l4 = p4) (c5 : w.cell? ⟨b, off + 5, none⟩ = some (.int .u8 z5)) (hs5 : sgd z5 = s5) (hl5 : IntKind.u64.wrap (s5 * 1099511627776) = l5) (hx5 : bits .xor .u64 p6 l5 = p5) (c6 : w.cell? ⟨b, off + 6, none⟩ = some (.int .u8 z6)) (hs6 : sgd z6 = s6) (hl6 : IntKind.u64.wrap (s6 * 281474976710656) = l6) (hx6 : bits .xor .u64 p7 l6 = p6) (c7 : w.cell? ⟨b, off + 7, none⟩ = some (.int .u8 z7)) (hs7 : sgd z7 = s7) (hl7 : IntKind.u64.wrap (s7 * 72057594037927936) = l7) (hx7 : bits .xor .u64 0 l7 = p7) (c8 : w.cell? ⟨b, off + 8, none⟩ = some (.int .u8 z8)) (hs8 : sgd z8 = l8) (hx8 : bits .xor .u64 p9 l8 = p8) (c9 : w.cell? ⟨b, off + 9, none⟩ = some (.int .u8 z9)) (hs9 : sgd z9 = s9) (hl9 : IntKind.u64.wrap (s9 * 256) = l9) (hx9 : bits .xor .u64 0 l9 = p9) :
    Calls Try.prog 34 #[.slice (some ⟨b, off, none⟩) 10 cap] w fun e w' => e = .returned (.tuple #[.int .u64 p0, .int .u64 p8]) ∧ w' = w := by
  go_enter Try.func34, Try.ntmps34
  refine wp_seq_k (fun K0 hK0 => ?_)
  have HK0 : Hid _ := hK0
  clear hK0
  go_wp2
  refine HK0.out _ _ ?_
  refine wp_seq_k (fun K1 hK1 => ?_)
  refine wp_seq_k (fun K2 hK2 => ?_)
  have HK2 : Hid _ := hK2
  clear hK2 HK0
  go_wp2
  refine HK2.out _ _ ?_
  clear HK2
  refine wp_blk (fun Q0 he0 => ?_)
  refine wp_fall (fun J15 Q15 hk15 he15 hn15 hf15 => ?_)
  refine wp_fall (fun J14 Q14 hk14 he14 hn14 hf14 => ?_)
  refine wp_fall (fun J13 Q13 hk13 he13 hn13 hf13 => ?_)
  refine wp_fall (fun J12 Q12 hk12 he12 hn12 hf12 => ?_)
  refine wp_fall (fun J11 Q11 hk11 he11 hn11 hf11 => ?_)
  refine wp_fall (fun J10 Q10 hk10 he10 hn10 hf10 => ?_)
  refine wp_fall (fun J9 Q9 hk9 he9 hn9 hf9 => ?_)
  refine wp_fall (fun J8 Q8 hk8 he8 hn8 hf8 => ?_)
  refine wp_fall (fun J7 Q7 hk7 he7 hn7 hf7 => ?_)
  refine wp_fall (fun J6 Q6 hk6 he6 hn6 hf6 => ?_)
  refine wp_fall (fun J5 Q5 hk5 he5 hn5 hf5 => ?_)
  refine wp_fall (fun J4 Q4 hk4 he4 hn4 hf4 => ?_)
  refine wp_fall (fun J3 Q3 hk3 he3 hn3 hf3 => ?_)
  refine wp_fall (fun J2 Q2 hk2 he2 hn2 hf2 => ?_)
  refine wp_fall (fun J1 Q1 hk1 he1 hn1 hf1 => ?_)
  have HN1 : Hid _ := hn1
  have HE1 : Hid _ := he1
  have HN2 : Hid _ := hn2
  have HE2 : Hid _ := he2
  have HN3 : Hid _ := hn3
  have HE3 : Hid _ := he3
  have HN4 : Hid _ := hn4
  have HE4 : Hid _ := he4
  have HN5 : Hid _ := hn5
  have HE5 : Hid _ := he5
  have HN6 : Hid _ := hn6
  have HE6 : Hid _ := he6
  have HN7 : Hid _ := hn7
  have HE7 : Hid _ := he7
  have HN8 : Hid _ := hn8
  have HE8 : Hid _ := he8
  have HN9 : Hid _ := hn9
  have HE9 : Hid _ := he9
  have HN10 : Hid _ := hn10
  have HE10 : Hid _ := he10
  have HN11 : Hid _ := hn11
  have HE11 : Hid _ := he11
  have HN12 : Hid _ := hn12
  have HE12 : Hid _ := he12
  have HN13 : Hid _ := hn13
  have HE13 : Hid _ := he13
  have HN14 : Hid _ := hn14
  have HE14 : Hid _ := he14
  have HN15 : Hid _ := hn15
  have HE15 : Hid _ := he15
  clear hn1 he1 hn2 he2 hn3 he3 hn4 he4 hn5 he5 hn6 he6 hn7 he7 hn8 he8 hn9 he9 hn10 he10 hn11 he11 hn12 he12 hn13 he13 hn14 he14 hn15 he15
  go_wp2
  refine HN1.out _ _ _ (by decide) ?_
  refine HN2.out _ _ _ (by decide) ?_
  refine HN3.out _ _ _ (by decide) ?_
  refine HN4.out _ _ _ (by decide) ?_
  refine HN5.out _ _ _ (by decide) ?_
  refine HE6.out _ _ ?_
  go_wp2_with (go_at_call 40; refine (signed_any _ _).mono ?_; rintro e w' ⟨rfl, rfl⟩)
  go_ret2
  exact ⟨rfl, rfl⟩

set_option maxRecDepth 20000 in
set_option maxHeartbeats 2000000 in
theorem ovar_11 (b off cap : Nat) (z0 s0 l0 p0 z1 s1 l1 p1 z2 s2 l2 p2 z3 s3 l3 p3 z4 s4 l4 p4 z5 s5 l5 p5 z6 s6 l6 p6 z7 s7 l7 p7 z8 s8 l8 p8 z9 s9 l9 p9 z10 s10 l10 p10 : Int) (w : World) (hm : cap ≤ maxLen) (hc : 11 ≤ cap)
    (c0 : w.cell? ⟨b, off, none⟩ = some (.int .u8 z0)) (hs0 : sgd z0 = l0) (hx0 : bits .xor .u64 p1 l0 = p0) (c1 : w.cell? ⟨b, off + 1, none⟩ = some (.int .u8 z1)) (hs1 : sgd z1 = s1) (hl1 : IntKind.u64.wrap (s1 * 256) = l1) (hx1 : bits .xor .u64 p2 l1 = p1) (c2 : w.cell? ⟨b, off + 2, none⟩ = some (.int .u8 z2)) (hs2 : sgd z2 = s2) (hl2 : IntKind.u64.wrap (s2 * 65536) = l2) (hx2 : bits .xor .u64 p3 l2 = p2) (c3 : w.cell? ⟨b, off + 3, none⟩ = some (.int .u8 z3)) (hs3 : sgd z3 = s3) (hl3 : IntKind.u64.wrap (s3 * 16777216) = l3) (hx3 : bits .xor .u64 p4 l3 = p3) (c4 : w.cell? ⟨b, off + 4, none⟩ = some (.int .u8 z4)) (hs4 : sgd z4 = s4) (hl4 : IntKind.u64.wrap (s4 * 4294967296) = l4) (hx4 : bits .xor .u64 p5 l4 = p4) (c5 : w.cell? ⟨b, off + 5, none⟩ = some (.int .u8 z5)) (hs5 : sgd z5 = s5) (hl5 : IntKind.u64.wrap (s5 * 1099511627776) = l5) (hx5 : bits .xor .u64 p6 l5 = p5) (c6 : w.cell? ⟨b, off + 6, none⟩ = some (.int .u8 z6)) (hs6 : sgd z6 = s6) (hl6 : IntKind.u64.wrap (s6 * 281474976710656) = l6) (hx6 : bits .xor .u64 p7 l6 = p6) (c7 : w.cell? ⟨b, off + 7, none⟩ = some (.int .u8 z7)) (hs7 : sgd z7 = s7) (hl7 : IntKind.u64.wrap (s7 * 72057594037927936) = l7) (hx7 : bits .xor .u64 0 l7 = p7) (c8 : w.cell? ⟨b, off + 8, none⟩ = some (.int .u8 z8)) (hs8 : sgd z8 = l8) (hx8 : bits .xor .u64 p9 l8 = p8) (c9 : w.cell? ⟨b, off + 9, none⟩ = some (.int .u8 z9)) (hs9 : sgd z9 = s9) (hl9 : IntKind.u64.wrap (s9 * 256) = l9) (hx9 : bits .xor .u64 p10 l9 = p9) (c10 : w.cell? ⟨b, off + 10, none⟩ = some (.int .u8 z10)) (hs10 : sgd z10 = s10) (hl10 : IntKind.u64.wrap (s10 * 65536) = l10) (hx10 : bits .xor .u64 0 l10 = p10) :
    Calls Try.prog 34 #[.slice (some ⟨b, off, none⟩) 11 cap] w fun e w' => e = .returned (.tuple #[.int .u64 p0, .int .u64 p8]) ∧ w' = w := by
  go_enter Try.func34, Try.ntmps34
  refine wp_seq_k (fun K0 hK0 => ?_)
  have HK0 : Hid _ := hK0
  clear hK0
  go_wp2
  refine HK0.out _ _ ?_
  refine wp_seq_k (fun K1 hK1 => ?_)
  refine wp_seq_k (fun K2 hK2 => ?_)
  have HK2 : Hid _ := hK2
  clear hK2 HK0
  go_wp2
  refine HK2.out _ _ ?_
  clear HK2
  refine wp_blk (fun Q0 he0 => ?_)
  refine wp_fall (fun J15 Q15 hk15 he15 hn15 hf15 => ?_)
  refine wp_fall (fun J14 Q14 hk14 he14 hn14 hf14 => ?_)
  refine wp_fall (fun J13 Q13 hk13 he13 hn13 hf13 => ?_)
  refine wp_fall (fun J12 Q12 hk12 he12 hn12 hf12 => ?_)
  refine wp_fall (fun J11 Q11 hk11 he11 hn11 hf11 => ?_)
  refine wp_fall (fun J10 Q10 hk10 he10 hn10 hf10 => ?_)
  refine wp_fall (fun J9 Q9 hk9 he9 hn9 hf9 => ?_)
  refine wp_fall (fun J8 Q8 hk8 he8 hn8 hf8 => ?_)
  refine wp_fall (fun J7 Q7 hk7 he7 hn7 hf7 => ?_)
  refine wp_fall (fun J6 Q6 hk6 he6 hn6 hf6 => ?_)
  refine wp_fall (fun J5 Q5 hk5 he5 hn5 hf5 => ?_)
  refine wp_fall (fun J4 Q4 hk4 he4 hn4 hf4 => ?_)
  refine wp_fall (fun J3 Q3 hk3 he3 hn3 hf3 => ?_)
  refine wp_fall (fun J2 Q2 hk2 he2 hn2 hf2 => ?_)
  refine wp_fall (fun J1 Q1 hk1 he1 hn1 hf1 => ?_)
  have HN1 : Hid _ := hn1
  have HE1 : Hid _ := he1
  have HN2 : Hid _ := hn2
  have HE2 : Hid _ := he2
  have HN3 : Hid _ := hn3
  have HE3 : Hid _ := he3
  have HN4 : Hid _ := hn4
  have HE4 : Hid _ := he4
  have HN5 : Hid _ := hn5
  have HE5 : Hid _ := he5
  have HN6 : Hid _ := hn6
  have HE6 : Hid _ := he6
  have HN7 : Hid _ := hn7
  have HE7 : Hid _ := he7
  have HN8 : Hid _ := hn8
  have HE8 : Hid _ := he8
  have HN9 : Hid _ := hn9
  have HE9 : Hid _ := he9
  have HN10 : Hid _ := hn10
  have HE10 : Hid _ := he10
  have HN11 : Hid _ := hn11
  have HE11 : Hid _ := he11
  have HN12 : Hid _ := hn12
  have HE12 : Hid _ := he12
  have HN13 : Hid _ := hn13
  have HE13 : Hid _ := he13
  have HN14 : Hid _ := hn14
  have HE14 : Hid _ := he14
  have HN15 : Hid _ := hn15
  have HE15 : Hid _ := he15
  clear hn1 he1 hn2 he2 hn3 he3 hn4 he4 hn5 he5 hn6 he6 hn7 he7 hn8 he8 hn9 he9 hn10 he10 hn11 he11 hn12 he12 hn13 he13 hn14 he14 hn15 he15
  go_wp2
  refine HN1.out _ _ _ (by decide) ?_
  refine HN2.out _ _ _ (by decide) ?_
  refine HN3.out _ _ _ (by decide) ?_
  refine HN4.out _ _ _ (by decide) ?_
  refine HE5.out _ _ ?_
  go_wp2_with (go_at_call 40; refine (signed_any _ _).mono ?_; rintro e w' ⟨rfl, rfl⟩)
  go_ret2
  exact ⟨rfl, rfl⟩

set_option maxRecDepth 20000 in
set_option maxHeartbeats 2000000 in
theorem ovar_12 (b off cap : Nat) (z0 s0 l0 p0 z1 s1 l1 p1 z2 s2 l2 p2 z3 s3 l3 p3 z4 s4 l4 p4 z5 s5 l5 p5 z6 s6 l6 p6 z7 s7 l7 p7 z8 s8 l8 p8 z9 s9 l9 p9 z10 s10 l10 p10 z11 s11 l11 p11 : Int) (w : World) (hm : cap ≤ maxLen) (hc : 12 ≤ cap)
    (c0 : w.cell? ⟨b, off, none⟩ = some (.int .u8 z0)) (hs0 : sgd z0 = l0) (hx0 : bits .xor .u64 p1 l0 = p0) (c1 : w.cell? ⟨b, off + 1, none⟩ = some (.int .u8 z1)) (hs1 : sgd z1 = s1) (hl1 : IntKind.u64.wrap (s1 * 256) = l1) (hx1 : bits .xor .u64 p2 l1 = p1) (c2 : w.cell? ⟨b, off + 2, none⟩ = some (.int .u8 z2)) (hs2 : sgd z2 = s2) (hl2 : IntKind.u64.wrap (s2 * 65536) = l2) (hx2 : bits .xor .u64 p3 l2 = p2) (c3 : w.cell? ⟨b, off + 3, none⟩ = some (.int .u8 z3)) (hs3 : sgd z3 = s3) (hl3 : IntKind.u64.wrap (s3 * 16777216) = l3) (hx3 : bits .xor .u64 p4 l3 = p3) (c4 : w.cell? ⟨b, off + 4, none⟩ = some (.int .u8 z4)) (hs4 : sgd z4 = s4) (hl4 : IntKind.u64.wrap (s4 * 4294967296) = l4) (hx4 : bits .xor .u64 p5 l4 = p4) (c5 : w.cell? ⟨b, off + 5, none⟩ = some (.int .u8 z5)) (hs5 : sgd z5 = s5) (hl5 : IntKind.u64.wrap (s5 * 1099511627776) = l5) (hx5 : bits .xor .u64 p6 l5 = p5) (c6 : w.cell? ⟨b, off + 6, none⟩ = some (.int .u8 z6)) (hs6 : sgd z6 = s6) (hl6 : IntKind.u64.wrap (s6 * 281474976710656) = l6) (hx6 : bits .xor .u64 p7 l6 = p6) (c7 : w.cell? ⟨b, off + 7, none⟩ = some (.int .u8 z7)) (hs7 : sgd z7 = s7) (hl7 : IntKind.u64.wrap (s7 * 72057594037927936) = l7) (hx7 : bits .xor .u64 0 l7 = p7) (c8 : w.cell? ⟨b, off + 8, none⟩ = some (.int .u8 z8)) (hs8 : sgd z8 = l8) (hx8 : bits .xor .u64 p9 l8 = p8) (c9 : w.cell? ⟨b, off + 9, none⟩ = some (.int .u8 z9)) (hs9 : sgd z9 = s9) (hl9 : IntKind.u64.wrap (s9 * 256) = l9) (hx9 : bits .xor .u64 p10 l9 = p9) (c10 : w.cell? ⟨b, off + 10, none⟩ = some (.int .u8 z10)) (hs10 : sgd z10 = s10) (hl10 : IntKind.u64.wrap (s10 * 65536) = l10) (hx10 : bits .xor .u64 p11 l10 = p10) (c11 : w.cell? ⟨b, off + 11, none⟩ = some (.int .u8 z11)) (hs11 : sgd z11 = s11) (hl11 : IntKind.u64.wrap (s11 * 16777216) = l11) (hx11 : bits .xor .u64 0 l11 = p11) :
    Calls Try.prog 34 #[.slice (some ⟨b, off, none⟩) 12 cap] w fun e w' => e = .returned (.tuple #[.int .u64 p0, .int .u64 p8]) ∧ w' = w := by
  go_enter Try.func34, Try.ntmps34
  refine wp_seq_k (fun K0 hK0 => ?_)
  have HK0 : Hid _ := hK0
  clear hK0
  go_wp2
  refine HK0.out _ _ ?_
  refine wp_seq_k (fun K1 hK1 => ?_)
  refine wp_seq_k (fun K2 hK2 => ?_)
  have HK2 : Hid _ := hK2
  clear hK2 HK0
  go_wp2
  refine HK2.out _ _ ?_
  clear HK2
  refine wp_blk (fun Q0 he0 => ?_)
  refine wp_fall (fun J15 Q15 hk15 he15 hn15 hf15 => ?_)
  refine wp_fall (fun J14 Q14 hk14 he14 hn14 hf14 => ?_)
  refine wp_fall (fun J13 Q13 hk13 he13 hn13 hf13 => ?_)
  refine wp_fall (fun J12 Q12 hk12 he12 hn12 hf12 => ?_)
  refine wp_fall (fun J11 Q11 hk11 he11 hn11 hf11 => ?_)
  refine wp_fall (fun J10 Q10 hk10 he10 hn10 hf10 => ?_)
  refine wp_fall (fun J9 Q9 hk9 he9 hn9 hf9 => ?_)
  refine wp_fall (fun J8 Q8 hk8 he8 hn8 hf8 => ?_)
  refine wp_fall (fun J7 Q7 hk7 he7 hn7 hf7 => ?_)
  refine wp_fall (fun J6 Q6 hk6 he6 hn6 hf6 => ?_)
  refine wp_fall (fun J5 Q5 hk5 he5 hn5 hf5 => ?_)
  refine wp_fall (fun J4 Q4 hk4 he4 hn4 hf4 => ?_)
  refine wp_fall (fun J3 Q3 hk3 he3 hn3 hf3 => ?_)
  refine wp_fall (fun J2 Q2 hk2 he2 hn2 hf2 => ?_)
  refine wp_fall (fun J1 Q1 hk1 he1 hn1 hf1 => ?_)
  have HN1 : Hid _ := hn1
  have HE1 : Hid _ := he1
  have HN2 : Hid _ := hn2
  have HE2 : Hid _ := he2
  have HN3 : Hid _ := hn3
  have HE3 : Hid _ := he3
  have HN4 : Hid _ := hn4
  have HE4 : Hid _ := he4
  have HN5 : Hid _ := hn5
  have HE5 : Hid _ := he5
  have HN6 : Hid _ := hn6
  have HE6 : Hid _ := he6
  have HN7 : Hid _ := hn7
  have HE7 : Hid _ := he7
  have HN8 : Hid _ := hn8
  have HE8 : Hid _ := he8
  have HN9 : Hid _ := hn9
  have HE9 : Hid _ := he9
  have HN10 : Hid _ := hn10
  have HE10 : Hid _ := he10
  have HN11 : Hid _ := hn11
  have HE11 : Hid _ := he11
  have HN12 : Hid _ := hn12
  have HE12 : Hid _ := he12
  have HN13 : Hid _ := hn13
  have HE13 : Hid _ := he13
  have HN14 : Hid _ := hn14
  have HE14 : Hid _ := he14
  have HN15 : Hid _ := hn15
  have HE15 : Hid _ := he15
  clear hn1 he1 hn2 he2 hn3 he3 hn4 he4 hn5 he5 hn6 he6 hn7 he7 hn8 he8 hn9 he9 hn10 he10 hn11 he11 hn12 he12 hn13 he13 hn14 he14 hn15 he15
  go_wp2
  refine HN1.out _ _ _ (by decide) ?_
  refine HN2.out _ _ _ (by decide) ?_
  refine HN3.out _ _ _ (by decide) ?_
  refine HE4.out _ _ ?_
  go_wp2_with (go_at_call 40; refine (signed_any _ _).mono ?_; rintro e w' ⟨rfl, rfl⟩)
  go_ret2
  exact ⟨rfl, rfl⟩

set_option maxRecDepth 20000 in
set_option maxHeartbeats 2000000 in
theorem ovar_13 (b off cap : Nat) (z0 s0 l0 p0 z1 s1 l1 p1 z2 s2 l2 p2 z3 s3 l3 p3 z4 s4 l4 p4 z5 s5 l5 p5 z6 s6 l6 p6 z7 s7 l7 p7 z8 s8 l8 p8 z9 s9 l9 p9 z10 s10 l10 p10 z11 s11 l11 p11 z12 s12 l12 p12 : Int) (w : World) (hm : cap ≤ maxLen) (hc : 13 ≤ cap)
    (c0 : w.cell? ⟨b, off, none⟩ = some (.int .u8 z0)) (hs0 : sgd z0 = l0) (hx0 : bits .xor .u64 p1 l0 = p0) (c1 : w.cell? ⟨b, off + 1, none⟩ = some (.int .u8 z1)) (hs1 : sgd z1 = s1) (hl1 : IntKind.u64.wrap (s1 * 256) = l1) (hx1 : bits .xor .u64 p2 l1 = p1) (c2 : w.cell? ⟨b, off + 2, none⟩ = some (.int .u8 z2)) (hs2 : sgd z2 = s2) (hl2 : IntKind.u64.wrap (s2 * 65536) = l2) (hx2 : bits .xor .u64 p3 l2 = p2) (c3 : w.cell? ⟨b, off + 3, none⟩ = some (.int .u8 z3)) (hs3 : sgd z3 = s3) (hl3 : IntKind.u64.wrap (s3 * 16777216) = l3) (hx3 : bits .xor .u64 p4 l3 = p3) (c4 : w.cell? ⟨b, off + 4, none⟩ = some (.int .u8 z4)) (hs4 : sgd z4 = s4) (hl4 : IntKind.u64.wrap (s4 * 4294967296) = l4) (hx4 : bits .xor .u64 p5 l4 = p4) (c5 : w.cell? ⟨b, off + 5, none⟩ = some (.int .u8 z5)) (hs5 : sgd z5 = s5) (hl5 : IntKind.u64.wrap (s5 * 1099511627776) = l5) (hx5 : bits .xor .u64 p6 l5 = p5) (c6 : w.cell? ⟨b, off + 6, none⟩ = some (.int .u8 z6)) (hs6 : sgd z6 = s6) (hl6 : IntKind.u64.wrap (s6 * 281474976710656) = l6) (hx6 : bits .xor .u64 p7 l6 = p6) (c7 : w.cell? ⟨b, off + 7, none⟩ = some (.int .u8 z7)) (hs7 : sgd z7 = s7) (hl7 : IntKind.u64.wrap (s7 * 72057594037927936) = l7) (hx7 : bits .xor .u64 0 l7 = p7) (c8 : w.cell? ⟨b, off + 8, none⟩ = some (.int .u8 z8)) (hs8 : sgd z8 = l8) (hx8 : bits .xor .u64 p9 l8 = p8) (c9 : w.cell? ⟨b, off + 9, none⟩ = some (.int .u8 z9)) (hs9 : sgd z9 = s9) (hl9 : IntKind.u64.wrap (s9 * 256) = l9) (hx9 : bits .xor .u64 p10 l9 = p9) (c10 : w.cell? ⟨b, off + 10, none⟩ = some (.int .u8 z10)) (hs10 : sgd z10 = s10) (hl10 : IntKind.u64.wrap (s10 * 65536) = l10) (hx10 : bits .xor .u64 p11 l10 = p10) (c11 : w.cell? ⟨b, off + 11, none⟩ = some (.int .u8 z11)) (hs11 : sgd z11 = s11) (hl11 : IntKind.u64.wrap (s11 * 16777216) = l11) (hx11 : bits .xor .u64 p12 l11 = p11) (c12 : w.cell? ⟨b, off + 12, none⟩ = some (.int .u8 z12)) (hs12 : sgd z12 = s12) (hl12 : IntKind.u64.wrap (s12 * 4294967296) = l12) (hx12 : bits .xor .u64 0 l12 = p12) :
    Calls Try.prog 34 #[.slice (some ⟨b, off, none⟩) 13 cap] w fun e w' => e = .returned (.tuple #[.int .u64 p0, .int .u64 p8]) ∧ w' = w := by
  go_enter Try.func34, Try.ntmps34
  refine wp_seq_k (fun K0 hK0 => ?_)
  have HK0 : Hid _ := hK0
  clear hK0
  go_wp2
  refine HK0.out _ _ ?_
  refine wp_seq_k (fun K1 hK1 => ?_)
  refine wp_seq_k (fun K2 hK2 => ?_)
  have HK2 : Hid _ := hK2
  clear hK2 HK0
  go_wp2
  refine HK2.out _ _ ?_
  clear HK2
  refine wp_blk (fun Q0 he0 => ?_)
  refine wp_fall (fun J15 Q15 hk15 he15 hn15 hf15 => ?_)
  refine wp_fall (fun J14 Q14 hk14 he14 hn14 hf14 => ?_)
  refine wp_fall (fun J13 Q13 hk13 he13 hn13 hf13 => ?_)
  refine wp_fall (fun J12 Q12 hk12 he12 hn12 hf12 => ?_)
  refine wp_fall (fun J11 Q11 hk11 he11 hn11 hf11 => ?_)
  refine wp_fall (fun J10 Q10 hk10 he10 hn10 hf10 => ?_)
  refine wp_fall (fun J9 Q9 hk9 he9 hn9 hf9 => ?_)
  refine wp_fall (fun J8 Q8 hk8 he8 hn8 hf8 => ?_)
  refine wp_fall (fun J7 Q7 hk7 he7 hn7 hf7 => ?_)
  refine wp_fall (fun J6 Q6 hk6 he6 hn6 hf6 => ?_)
  refine wp_fall (fun J5 Q5 hk5 he5 hn5 hf5 => ?_)
  refine wp_fall (fun J4 Q4 hk4 he4 hn4 hf4 => ?_)
  refine wp_fall (fun J3 Q3 hk3 he3 hn3 hf3 => ?_)
  refine wp_fall (fun J2 Q2 hk2 he2 hn2 hf2 => ?_)
  refine wp_fall (fun J1 Q1 hk1 he1 hn1 hf1 => ?_)
  have HN1 : Hid _ := hn1
  have HE1 : Hid _ := he1
  have HN2 : Hid _ := hn2
  have HE2 : Hid _ := he2
  have HN3 : Hid _ := hn3
  have HE3 : Hid _ := he3
  have HN4 : Hid _ := hn4
  have HE4 : Hid _ := he4
  have HN5 : Hid _ := hn5
  have HE5 : Hid _ := he5
  have HN6 : Hid _ := hn6
  have HE6 : Hid _ := he6
  have HN7 : Hid _ := hn7
  have HE7 : Hid _ := he7
  have HN8 : Hid _ := hn8
  have HE8 : Hid _ := he8
  have HN9 : Hid _ := hn9
  have HE9 : Hid _ := he9
  have HN10 : Hid _ := hn10
  have HE10 : Hid _ := he10
  have HN11 : Hid _ := hn11
  have HE11 : Hid _ := he11
  have HN12 : Hid _ := hn12
  have HE12 : Hid _ := he12
  have HN13 : Hid _ := hn13
  have HE13 : Hid _ := he13
  have HN14 : Hid _ := hn14
  have HE14 : Hid _ := he14
  have HN15 : Hid _ := hn15
  have HE15 : Hid _ := he15
  clear hn1 he1 hn2 he2 hn3 he3 hn4 he4 hn5 he5 hn6 he6 hn7 he7 hn8 he8 hn9 he9 hn10 he10 hn11 he11 hn12 he12 hn13 he13 hn14 he14 hn15 he15
  go_wp2
  refine HN1.out _ _ _ (by decide) ?_
  refine HN2.out _ _ _ (by decide) ?_
  refine HE3.out _ _ ?_
  go_wp2_with (go_at_call 40; refine (signed_any _ _).mono ?_; rintro e w' ⟨rfl, rfl⟩)
  go_ret2
  exact ⟨rfl, rfl⟩

set_option maxRecDepth 20000 in
set_option maxHeartbeats 2000000 in
theorem ovar_14 (b off cap : Nat) (z0 s0 l0 p0 z1 s1 l1 p1 z2 s2 l2 p2 z3 s3 l3 p3 z4 s4 l4 p4 z5 s5 l5 p5 z6 s6 l6 p6 z7 s7 l7 p7 z8 s8 l8 p8 z9 s9 l9 p9 z10 s10 l10 p10 z11 s11 l11 p11 z12 s12 l12 p12 z13 s13 l13 p13 : Int) (w : World) (hm : cap ≤ maxLen) (hc : 14 ≤ cap)
    (c0 : w.cell? ⟨b, off, none⟩ = some (.int .u8 z0)) (hs0 : sgd z0 = l0) (hx0 : bits .xor .u64 p1 l0 = p0) (c1 : w.cell? ⟨b, off + 1, none⟩ = some (.int .u8 z1)) (hs1 : sgd z1 = s1) (hl1 : IntKind.u64.wrap (s1 * 256) = l1) (hx1 : bits .xor .u64 p2 l1 = p1) (c2 : w.cell? ⟨b, off + 2, none⟩ = some (.int .u8 z2)) (hs2 : sgd z2 = s2) (hl2 : IntKind.u64.wrap (s2 * 65536) = l2) (hx2 : bits .xor .u64 p3 l2 = p2) (c3 : w.cell? ⟨b, off + 3, none⟩ = some (.int .u8 z3)) (hs3 : sgd z3 = s3) (hl3 : IntKind.u64.wrap (s3 * 16777216) = l3) (hx3 : bits .xor .u64 p4 l3 = p3) (c4 : w.cell? ⟨b, off + 4, none⟩ = some (.int .u8 z4)) (hs4 : sgd z4 = s4) (hl4 : IntKind.u64.wrap (s4 * 4294967296) = l4) (hx4 : bits .xor .u64 p5 l4 = p4) (c5 : w.cell? ⟨b, off + 5, none⟩ = some (.int .u8 z5)) (hs5 : sgd z5 = s5) (hl5 : IntKind.u64.wrap (s5 * 1099511627776) = l5) (hx5 : bits .xor .u64 p6 l5 = p5) (c6 : w.cell? ⟨b, off + 6, none⟩ = some (.int .u8 z6)) (hs6 : sgd z6 = s6) (hl6 : IntKind.u64.wrap (s6 * 281474976710656) = l6) (hx6 : bits .xor .u64 p7 l6 = p6) (c7 : w.cell? ⟨b, off + 7, none⟩ = some (.int .u8 z7)) (hs7 : sgd z7 = s7) (hl7 : IntKind.u64.wrap (s7 * 72057594037927936) = l7) (hx7 : bits .xor .u64 0 l7 = p7) (c8 : w.cell? ⟨b, off + 8, none⟩ = some (.int .u8 z8)) (hs8 : sgd z8 = l8) (hx8 : bits .xor .u64 p9 l8 = p8) (c9 : w.cell? ⟨b, off + 9, none⟩ = some (.int .u8 z9)) (hs9 : sgd z9 = s9) (hl9 : IntKind.u64.wrap (s9 * 256) = l9) (hx9 : bits .xor .u64 p10 l9 = p9) (c10 : w.cell? ⟨b, off + 10, none⟩ = some (.int .u8 z10)) (hs10 : sgd z10 = s10) (hl10 : IntKind.u64.wrap (s10 * 65536) = l10) (hx10 : bits .xor .u64 p11 l10 = p10) (c11 : w.cell? ⟨b, off + 11, none⟩ = some (.int .u8 z11)) (hs11 : sgd z11 = s11) (hl11 : IntKind.u64.wrap (s11 * 16777216) = l11) (hx11 : bits .xor .u64 p12 l11 = p11) (c12 : w.cell? ⟨b, off + 12, none⟩ = some (.int .u8 z12)) (hs12 : sgd z12 = s12) (hl12 : IntKind.u64.wrap (s12 * 4294967296) = l12) (hx12 : bits .xor .u64 p13 l12 = p12) (c13 : w.cell? ⟨b, off + 13, none⟩ = some (.int .u8 z13)) (hs13 : sgd z13 = s13) (hl13 : IntKind.u64.wrap (s13 * 1099511627776) = l13) (hx13 : bits .xor .u64 0 l13 = p13) :
    Calls Try.prog 34 #[.slice (some ⟨b, off, none⟩) 14 cap] w fun e w' => e = .returned (.tuple #[.int .u64 p0, .int .u64 p8]) ∧ w' = w := by
  go_enter Try.func34, Try.ntmps34
  refine wp_seq_k (fun K0 hK0 => ?_)
  have HK0 : Hid _ := hK0
  clear hK0
  go_wp2
  refine HK0.out _ _ ?_
  refine wp_seq_k (fun K1 hK1 => ?_)
  refine wp_seq_k (fun K2 hK2 => ?_)
  have HK2 : Hid _ := hK2
  clear hK2 HK0
  go_wp2
  refine HK2.out _ _ ?_
  clear HK2
  refine wp_blk (fun Q0 he0 => ?_)
  refine wp_fall (fun J15 Q15 hk15 he15 hn15 hf15 => ?_)
  refine wp_fall (fun J14 Q14 hk14 he14 hn14 hf14 => ?_)
  refine wp_fall (fun J13 Q13 hk13 he13 hn13 hf13 => ?_)
  refine wp_fall (fun J12 Q12 hk12 he12 hn12 hf12 => ?_)
  refine wp_fall (fun J11 Q11 hk11 he11 hn11 hf11 => ?_)
  refine wp_fall (fun J10 Q10 hk10 he10 hn10 hf10 => ?_)
  refine wp_fall (fun J9 Q9 hk9 he9 hn9 hf9 => ?_)
  refine wp_fall (fun J8 Q8 hk8 he8 hn8 hf8 => ?_)
  refine wp_fall (fun J7 Q7 hk7 he7 hn7 hf7 => ?_)
  refine wp_fall (fun J6 Q6 hk6 he6 hn6 hf6 => ?_)
  refine wp_fall (fun J5 Q5 hk5 he5 hn5 hf5 => ?_)
  refine wp_fall (fun J4 Q4 hk4 he4 hn4 hf4 => ?_)
  refine wp_fall (fun J3 Q3 hk3 he3 hn3 hf3 => ?_)
  refine wp_fall (fun J2 Q2 hk2 he2 hn2 hf2 => ?_)
  refine wp_fall (fun J1 Q1 hk1 he1 hn1 hf1 => ?_)
  have HN1 : Hid _ := hn1
  have HE1 : Hid _ := he1
  have HN2 : Hid _ := hn2
  have HE2 : Hid _ := he2
  have HN3 : Hid _ := hn3
  have HE3 : Hid _ := he3
  have HN4 : Hid _ := hn4
  have HE4 : Hid _ := he4
  have HN5 : Hid _ := hn5
  have HE5 : Hid _ := he5
  have HN6 : Hid _ := hn6
  have HE6 : Hid _ := he6
  have HN7 : Hid _ := hn7
  have HE7 : Hid _ := he7
  have HN8 : Hid _ := hn8
  have HE8 : Hid _ := he8
  have HN9 : Hid _ := hn9
  have HE9 : Hid _ := he9
  have HN10 : Hid _ := hn10
  have HE10 : Hid _ := he10
  have HN11 : Hid _ := hn11
  have HE11 : Hid _ := he11
  have HN12 : Hid _ := hn12
  have HE12 : Hid _ := he12
  have HN13 : Hid _ := hn13
  have HE13 : Hid _ := he13
  have HN14 : Hid _ := hn14
  have HE14 : Hid _ := he14
  have HN15 : Hid _ := hn15
  have HE15 : Hid _ := he15
  clear hn1 he1 hn2 he2 hn3 he3 hn4 he4 hn5 he5 hn6 he6 hn7 he7 hn8 he8 hn9 he9 hn10 he10 hn11 he11 hn12 he12 hn13 he13 hn14 he14 hn15 he15
  go_wp2
  refine HN1.out _ _ _ (by decide) ?_
  refine HE2.out _ _ ?_
  go_wp2_with (go_at_call 40; refine (signed_any _ _).mono ?_; rintro e w' ⟨rfl, rfl⟩)
  go_ret2
  exact ⟨rfl, rfl⟩

set_option maxRecDepth 20000 in
set_option maxHeartbeats 2000000 in
theorem ovar_15 (b off cap : Nat) (z0 s0 l0 p0 z1 s1 l1 p1 z2 s2 l2 p2 z3 s3 l3 p3 z4 s4 l4 p4 z5 s5 l5 p5 z6 s6 l6 p6 z7 s7 l7 p7 z8 s8 l8 p8 z9 s9 l9 p9 z10 s10 l10 p10 z11 s11 l11 p11 z12 s12 l12 p12 z13 s13 l13 p13 z14 s14 l14 p14 : Int) (w : World) (hm : cap ≤ maxLen) (hc : 15 ≤ cap)
    (c0 : w.cell? ⟨b, off, none⟩ = some (.int .u8 z0)) (hs0 : sgd z0 = l0) (hx0 : bits .xor .u64 p1 l0 = p0) (c1 : w.cell? ⟨b, off + 1, none⟩ = some (.int .u8 z1)) (hs1 : sgd z1 = s1) (hl1 : IntKind.u64.wrap (s1 * 256) = l1) (hx1 : bits .xor .u64 p2 l1 = p1) (c2 : w.cell? ⟨b, off + 2, none⟩ = some (.int .u8 z2)) (hs2 : sgd z2 = s2) (hl2 : IntKind.u64.wrap (s2 * 65536) = l2) (hx2 : bits .xor .u64 p3 l2 = p2) (c3 : w.cell? ⟨b, off + 3, none⟩ = some (.int .u8 z3)) (hs3 : sgd z3 = s3) (hl3 : IntKind.u64.wrap (s3 * 16777216) = l3) (hx3 : bits .xor .u64 p4 l3 = p3) (c4 : w.cell? ⟨b, off + 4, none⟩ = some (.int .u8 z4)) (hs4 : sgd z4 = s4) (hl4 : IntKind.u64.wrap (s4 * 4294967296) = l4) (hx4 : bits .xor .u64 p5 l4 = p4) (c5 : w.cell? ⟨b, off + 5, none⟩ = some (.int .u8 z5)) (hs5 : sgd z5 = s5) (hl5 : IntKind.u64.wrap (s5 * 1099511627776) = l5) (hx5 : bits .xor .u64 p6 l5 = p5) (c6 : w.cell? ⟨b, off + 6, none⟩ = some (.int .u8 z6)) (hs6 : sgd z6 = s6) (hl6 : IntKind.u64.wrap (s6 * 281474976710656) = l6) (hx6 : bits .xor .u64 p7 l6 = p6) (c7 : w.cell? ⟨b, off + 7, none⟩ = some (.int .u8 z7)) (hs7 : sgd z7 = s7) (hl7 : IntKind.u64.wrap (s7 * 72057594037927936) = l7) (hx7 : bits .xor .u64 0 l7 = p7) (c8 : w.cell? ⟨b, off + 8, none⟩ = some (.int .u8 z8)) (hs8 : sgd z8 = l8) (hx8 : bits .xor .u64 p9 l8 = p8) (c9 : w.cell? ⟨b, off + 9, none⟩ = some (.int .u8 z9)) (hs9 : sgd z9 = s9) (hl9 : IntKind.u64.wrap (s9 * 256) = l9) (hx9 : bits .xor .u64 p10 l9 = p9) (c10 : w.cell? ⟨b, off + 10, none⟩ = some (.int .u8 z10)) (hs10 : sgd z10 = s10) (hl10 : IntKind.u64.wrap (s10 * 65536) = l10) (hx10 : bits .xor .u64 p11 l10 = p10) (c11 : w.cell? ⟨b, off + 11, none⟩ = some (.int .u8 z11)) (hs11 : sgd z11 = s11) (hl11 : IntKind.u64.wrap (s11 * 16777216) = l11) (hx11 : bits .xor .u64 p12 l11 = p11) (c12 : w.cell? ⟨b, off + 12, none⟩ = some (.int .u8 z12)) (hs12 : sgd z12 = s12) (hl12 : IntKind.u64.wrap (s12 * 4294967296) = l12) (hx12 : bits .xor .u64 p13 l12 = p12) (c13 : w.cell? ⟨b, off + 13, none⟩ = some (.int .u8 z13)) (hs13 : sgd z13 = s13) (hl13 : IntKind.u64.wrap (s13 * 1099511627776) = l13) (hx13 : bits .xor .u64 p14 l13 = p13) (c14 : w.cell? ⟨b, off + 14, none⟩ = some (.int .u8 z14)) (hs14 : sgd z14 = s14) (hl14 : IntKind.u64.wrap (s14 * 281474976710656) = l14) (hx14 : bits .xor .u64 0 l14 = p14) :
    Calls Try.prog 34 #[.slice (some ⟨b, off, none⟩) 15 cap] w fun e w' => e = .returned (.tuple #[.int .u64 p0, .int .u64 p8]) ∧ w' = w := by
  go_enter Try.func34, Try.ntmps34
  refine wp_seq_k (fun K0 hK0 => ?_)
  have HK0 : Hid _ := hK0
  clear hK0
  go_wp2
  refine HK0.out _ _ ?_
  refine wp_seq_k (fun K1 hK1 => ?_)
  refine wp_seq_k (fun K2 hK2 => ?_)
  have HK2 : Hid _ := hK2
  clear hK2 HK0
  go_wp2
  refine HK2.out _ _ ?_
  clear HK2
  refine wp_blk (fun Q0 he0 => ?_)
  refine wp_fall (fun J15 Q15 hk15 he15 hn15 hf15 => ?_)
  refine wp_fall (fun J14 Q14 hk14 he14 hn14 hf14 => ?_)
  refine wp_fall (fun J13 Q13 hk13 he13 hn13 hf13 => ?_)
  refine wp_fall (fun J12 Q12 hk12 he12 hn12 hf12 => ?_)
  refine wp_fall (fun J11 Q11 hk11 he11 hn11 hf11 => ?_)
  refine wp_fall (fun J10 Q10 hk10 he10 hn10 hf10 => ?_)
  refine wp_fall (fun J9 Q9 hk9 he9 hn9 hf9 => ?_)
  refine wp_fall (fun J8 Q8 hk8 he8 hn8 hf8 => ?_)
  refine wp_fall (fun J7 Q7 hk7 he7 hn7 hf7 => ?_)
  refine wp_fall (fun J6 Q6 hk6 he6 hn6 hf6 => ?_)
  refine wp_fall (fun J5 Q5 hk5 he5 hn5 hf5 => ?_)
  refine wp_fall (fun J4 Q4 hk4 he4 hn4 hf4 => ?_)
  refine wp_fall (fun J3 Q3 hk3 he3 hn3 hf3 => ?_)
  refine wp_fall (fun J2 Q2 hk2 he2 hn2 hf2 => ?_)
  refine wp_fall (fun J1 Q1 hk1 he1 hn1 hf1 => ?_)
  have HN1 : Hid _ := hn1
  have HE1 : Hid _ := he1
  have HN2 : Hid _ := hn2
  have HE2 : Hid _ := he2
  have HN3 : Hid _ := hn3
  have HE3 : Hid _ := he3
  have HN4 : Hid _ := hn4
  have HE4 : Hid _ := he4
  have HN5 : Hid _ := hn5
  have HE5 : Hid _ := he5
  have HN6 : Hid _ := hn6
  have HE6 : Hid _ := he6
  have HN7 : Hid _ := hn7
  have HE7 : Hid _ := he7
  have HN8 : Hid _ := hn8
  have HE8 : Hid _ := he8
  have HN9 : Hid _ := hn9
  have HE9 : Hid _ := he9
  have HN10 : Hid _ := hn10
  have HE10 : Hid _ := he10
  have HN11 : Hid _ := hn11
  have HE11 : Hid _ := he11
  have HN12 : Hid _ := hn12
  have HE12 : Hid _ := he12
  have HN13 : Hid _ := hn13
  have HE13 : Hid _ := he13
  have HN14 : Hid _ := hn14
  have HE14 : Hid _ := he14
  have HN15 : Hid _ := hn15
  have HE15 : Hid _ := he15
  clear hn1 he1 hn2 he2 hn3 he3 hn4 he4 hn5 he5 hn6 he6 hn7 he7 hn8 he8 hn9 he9 hn10 he10 hn11 he11 hn12 he12 hn13 he13 hn14 he14 hn15 he15
  go_wp2
  refine HE1.out _ _ ?_
  go_wp2_with (go_at_call 40; refine (signed_any _ _).mono ?_; rintro e w' ⟨rfl, rfl⟩)
  go_ret2
  exact ⟨rfl, rfl⟩

theorem over_0 (b off cap : Nat) (f : Nat → Int) (w : World) (hm : cap ≤ maxLen) (hc : 0 ≤ cap) (hcell : ∀ i, i < 0 → w.cell? ⟨b, off + i, none⟩ = some (.int .u8 (f i))) :
    Calls Try.prog 34 #[.slice (some ⟨b, off, none⟩) 0 cap] w fun e w' => e = .returned (.tuple #[.int .u64 (layK f 0), .int .u64 (layM f 0)]) ∧ w' = w := by
  rw [show layK f 0 = 0 from rfl, layM_none f 0 (by omega)]
  exact ovar_0 b off cap w hm hc

theorem over_1 (b off cap : Nat) (f : Nat → Int) (w : World) (hm : cap ≤ maxLen) (hc : 1 ≤ cap) (hcell : ∀ i, i < 1 → w.cell? ⟨b, off + i, none⟩ = some (.int .u8 (f i))) :
    Calls Try.prog 34 #[.slice (some ⟨b, off, none⟩) 1 cap] w fun e w' => e = .returned (.tuple #[.int .u64 (layK f 1), .int .u64 (layM f 1)]) ∧ w' = w := by
  rw [← overK_1 f, layM_none f 1 (by omega)]
  exact ovar_1 b off cap _ 0 _ _ w hm hc (hcell 0 (by omega)) rfl rfl

theorem over_2 (b off cap : Nat) (f : Nat → Int) (w : World) (hm : cap ≤ maxLen) (hc : 2 ≤ cap) (hcell : ∀ i, i < 2 → w.cell? ⟨b, off + i, none⟩ = some (.int .u8 (f i))) :
    Calls Try.prog 34 #[.slice (some ⟨b, off, none⟩) 2 cap] w fun e w' => e = .returned (.tuple #[.int .u64 (layK f 2), .int .u64 (layM f 2)]) ∧ w' = w := by
  rw [← overK_2 f, layM_none f 2 (by omega)]
  exact ovar_2 b off cap _ 0 _ _ _ _ _ _ w hm hc (hcell 0 (by omega)) rfl rfl (hcell 1 (by omega)) rfl rfl rfl

theorem over_3 (b off cap : Nat) (f : Nat → Int) (w : World) (hm : cap ≤ maxLen) (hc : 3 ≤ cap) (hcell : ∀ i, i < 3 → w.cell? ⟨b, off + i, none⟩ = some (.int .u8 (f i))) :
    Calls Try.prog 34 #[.slice (some ⟨b, off, none⟩) 3 cap] w fun e w' => e = .returned (.tuple #[.int .u64 (layK f 3), .int .u64 (layM f 3)]) ∧ w' = w := by
  rw [← overK_3 f, layM_none f 3 (by omega)]
  exact ovar_3 b off cap _ 0 _ _ _ _ _ _ _ _ _ _ w hm hc (hcell 0 (by omega)) rfl rfl (hcell 1 (by omega)) rfl rfl rfl (hcell 2 (by omega)) rfl rfl rfl

theorem over_4 (b off cap : Nat) (f : Nat → Int) (w : World) (hm : cap ≤ maxLen) (hc : 4 ≤ cap) (hcell : ∀ i, i < 4 → w.cell? ⟨b, off + i, none⟩ = some (.int .u8 (f i))) :
    Calls Try.prog 34 #[.slice (some ⟨b, off, none⟩) 4 cap] w fun e w' => e = .returned (.tuple #[.int .u64 (layK f 4), .int .u64 (layM f 4)]) ∧ w' = w := by
  rw [← overK_4 f, layM_none f 4 (by omega)]
  exact ovar_4 b off cap _ 0 _ _ _ _ _ _ _ _ _ _ _ _ _ _ w hm hc (hcell 0 (by omega)) rfl rfl (hcell 1 (by omega)) rfl rfl rfl (hcell 2 (by omega)) rfl rfl rfl (hcell 3 (by omega)) rfl rfl rfl

theorem over_5 (b off cap : Nat) (f : Nat → Int) (w : World) (hm : cap ≤ maxLen) (hc : 5 ≤ cap) (hcell : ∀ i, i < 5 → w.cell? ⟨b, off + i, none⟩ = some (.int .u8 (f i))) :
    Calls Try.prog 34 #[.slice (some ⟨b, off, none⟩) 5 cap] w fun e w' => e = .returned (.tuple #[.int .u64 (layK f 5), .int .u64 (layM f 5)]) ∧ w' = w := by
  rw [← overK_5 f, layM_none f 5 (by omega)]
  exact ovar_5 b off cap _ 0 _ _ _ _ _ _ _ _ _ _ _ _ _ _ _ _ _ _ w hm hc (hcell 0 (by omega)) rfl rfl (hcell 1 (by omega)) rfl rfl rfl (hcell 2 (by omega)) rfl rfl rfl (hcell 3 (by omega)) rfl rfl rfl (hcell 4 (by omega)) rfl rfl rfl

theorem over_6 (b off cap : Nat) (f : Nat → Int) (w : World) (hm : cap ≤ maxLen) (hc : 6 ≤ cap) (hcell : ∀ i, i < 6 → w.cell? ⟨b, off + i, none⟩ = some (.int .u8 (f i))) :
    Calls Try.prog 34 #[.slice (some ⟨b, off, none⟩) 6 cap] w fun e w' => e = .returned (.tuple #[.int .u64 (layK f 6), .int .u64 (layM f 6)]) ∧ w' = w := by
  rw [← overK_6 f, layM_none f 6 (by omega)]
  exact ovar_6 b off cap _ 0 _ _ _ _ _ _ _ _ _ _ _ _ _ _ _ _ _ _ _ _ _ _ w hm hc (hcell 0 (by omega)) rfl rfl (hcell 1 (by omega)) rfl rfl rfl (hcell 2 (by omega)) rfl rfl rfl (hcell 3 (by omega)) rfl rfl rfl (hcell 4 (by omega)) rfl rfl rfl (hcell 5 (by omega)) rfl rfl rfl

theorem over_7 (b off cap : Nat) (f : Nat → Int) (w : World) (hm : cap ≤ maxLen) (hc : 7 ≤ cap) (hcell : ∀ i, i < 7 → w.cell? ⟨b, off + i, none⟩ = some (.int .u8 (f i))) :
    Calls Try.prog 34 #[.slice (some ⟨b, off, none⟩) 7 cap] w fun e w' => e = .returned (.tuple #[.int .u64 (layK f 7), .int .u64 (layM f 7)]) ∧ w' = w := by
  rw [← overK_7 f, layM_none f 7 (by omega)]
  exact ovar_7 b off cap _ 0 _ _ _ _ _ _ _ _ _ _ _ _ _ _ _ _ _ _ _ _ _ _ _ _ _ _ w hm hc (hcell 0 (by omega)) rfl rfl (hcell 1 (by omega)) rfl rfl rfl (hcell 2 (by omega)) rfl rfl rfl (hcell 3 (by omega)) rfl rfl rfl (hcell 4 (by omega)) rfl rfl rfl (hcell 5 (by omega)) rfl rfl rfl (hcell 6 (by omega)) rfl rfl rfl

theorem over_8 (b off cap : Nat) (f : Nat → Int) (w : World) (hm : cap ≤ maxLen) (hc : 8 ≤ cap) (hcell : ∀ i, i < 8 → w.cell? ⟨b, off + i, none⟩ = some (.int .u8 (f i))) :
    Calls Try.prog 34 #[.slice (some ⟨b, off, none⟩) 8 cap] w fun e w' => e = .returned (.tuple #[.int .u64 (layK f 8), .int .u64 (layM f 8)]) ∧ w' = w := by
  rw [← overK_8 f, layM_none f 8 (by omega)]
  exact ovar_8 b off cap _ 0 _ _ _ _ _ _ _ _ _ _ _ _ _ _ _ _ _ _ _ _ _ _ _ _ _ _ _ _ _ _ w hm hc (hcell 0 (by omega)) rfl rfl (hcell 1 (by omega)) rfl rfl rfl (hcell 2 (by omega)) rfl rfl rfl (hcell 3 (by omega)) rfl rfl rfl (hcell 4 (by omega)) rfl rfl rfl (hcell 5 (by omega)) rfl rfl rfl (hcell 6 (by omega)) rfl rfl rfl (hcell 7 (by omega)) rfl rfl rfl

theorem over_9 (b off cap : Nat) (f : Nat → Int) (w : World) (hm : cap ≤ maxLen) (hc : 9 ≤ cap) (hcell : ∀ i, i < 9 → w.cell? ⟨b, off + i, none⟩ = some (.int .u8 (f i))) :
    Calls Try.prog 34 #[.slice (some ⟨b, off, none⟩) 9 cap] w fun e w' => e = .returned (.tuple #[.int .u64 (layK f 9), .int .u64 (layM f 9)]) ∧ w' = w := by
  rw [layK_top f 9 (by omega), ← overK_8 f, ← overM_9 f]
  exact ovar_9 b off cap _ 0 _ _ _ _ _ _ _ _ _ _ _ _ _ _ _ _ _ _ _ _ _ _ _ _ _ _ _ _ _ _ _ 0 _ _ w hm hc (hcell 0 (by omega)) rfl rfl (hcell 1 (by omega)) rfl rfl rfl (hcell 2 (by omega)) rfl rfl rfl (hcell 3 (by omega)) rfl rfl rfl (hcell 4 (by omega)) rfl rfl rfl (hcell 5 (by omega)) rfl rfl rfl (hcell 6 (by omega)) rfl rfl rfl (hcell 7 (by omega)) rfl rfl rfl (hcell 8 (by omega)) rfl rfl

theorem over_10 (b off cap : Nat) (f : Nat → Int) (w : World) (hm : cap ≤ maxLen) (hc : 10 ≤ cap) (hcell : ∀ i, i < 10 → w.cell? ⟨b, off + i, none⟩ = some (.int .u8 (f i))) :
    Calls Try.prog 34 #[.slice (some ⟨b, off, none⟩) 10 cap] w fun e w' => e = .returned (.tuple #[.int .u64 (layK f 10), .int .u64 (layM f 10)]) ∧ w' = w := by
  rw [layK_top f 10 (by omega), ← overK_8 f, ← overM_10 f]
  exact ovar_10 b off cap _ 0 _ _ _ _ _ _ _ _ _ _ _ _ _ _ _ _ _ _ _ _ _ _ _ _ _ _ _ _ _ _ _ 0 _ _ _ _ _ _ w hm hc (hcell 0 (by omega)) rfl rfl (hcell 1 (by omega)) rfl rfl rfl (hcell 2 (by omega)) rfl rfl rfl (hcell 3 (by omega)) rfl rfl rfl (hcell 4 (by omega)) rfl rfl rfl (hcell 5 (by omega)) rfl rfl rfl (hcell 6 (by omega)) rfl rfl rfl (hcell 7 (by omega)) rfl rfl rfl (hcell 8 (by omega)) rfl rfl (hcell 9 (by omega)) rfl rfl rfl

theorem over_11 (b off cap : Nat) (f : Nat → Int) (w : World) (hm : cap ≤ maxLen) (hc : 11 ≤ cap) (hcell : ∀ i, i < 11 → w.cell? ⟨b, off + i, none⟩ = some (.int .u8 (f i))) :
    Calls Try.prog 34 #[.slice (some ⟨b, off, none⟩) 11 cap] w fun e w' => e = .returned (.tuple #[.int .u64 (layK f 11), .int .u64 (layM f 11)]) ∧ w' = w := by
  rw [layK_top f 11 (by omega), ← overK_8 f, ← overM_11 f]
  exact ovar_11 b off cap _ 0 _ _ _ _ _ _ _ _ _ _ _ _ _ _ _ _ _ _ _ _ _ _ _ _ _ _ _ _ _ _ _ 0 _ _ _ _ _ _ _ _ _ _ w hm hc (hcell 0 (by omega)) rfl rfl (hcell 1 (by omega)) rfl rfl rfl (hcell 2 (by omega)) rfl rfl rfl (hcell 3 (by omega)) rfl rfl rfl (hcell 4 (by omega)) rfl rfl rfl (hcell 5 (by omega)) rfl rfl rfl (hcell 6 (by omega)) rfl rfl rfl (hcell 7 (by omega)) rfl rfl rfl (hcell 8 (by omega)) rfl rfl (hcell 9 (by omega)) rfl rfl rfl (hcell 10 (by omega)) rfl rfl rfl

theorem over_12 (b off cap : Nat) (f : Nat → Int) (w : World) (hm : cap ≤ maxLen) (hc : 12 ≤ cap) (hcell : ∀ i, i < 12 → w.cell? ⟨b, off + i, none⟩ = some (.int .u8 (f i))) :
    Calls Try.prog 34 #[.slice (some ⟨b, off, none⟩) 12 cap] w fun e w' => e = .returned (.tuple #[.int .u64 (layK f 12), .int .u64 (layM f 12)]) ∧ w' = w := by
  rw [layK_top f 12 (by omega), ← overK_8 f, ← overM_12 f]
  exact ovar_12 b off cap _ 0 _ _ _ _ _ _ _ _ _ _ _ _ _ _ _ _ _ _ _ _ _ _ _ _ _ _ _ _ _ _ _ 0 _ _ _ _ _ _ _ _ _ _ _ _ _ _ w hm hc (hcell 0 (by omega)) rfl rfl (hcell 1 (by omega)) rfl rfl rfl (hcell 2 (by omega)) rfl rfl rfl (hcell 3 (by omega)) rfl rfl rfl (hcell 4 (by omega)) rfl rfl rfl (hcell 5 (by omega)) rfl rfl rfl (hcell 6 (by omega)) rfl rfl rfl (hcell 7 (by omega)) rfl rfl rfl (hcell 8 (by omega)) rfl rfl (hcell 9 (by omega)) rfl rfl rfl (hcell 10 (by omega)) rfl rfl rfl (hcell 11 (by omega)) rfl rfl rfl

theorem over_13 (b off cap : Nat) (f : Nat → Int) (w : World) (hm : cap ≤ maxLen) (hc : 13 ≤ cap) (hcell : ∀ i, i < 13 → w.cell? ⟨b, off + i, none⟩ = some (.int .u8 (f i))) :
    Calls Try.prog 34 #[.slice (some ⟨b, off, none⟩) 13 cap] w fun e w' => e = .returned (.tuple #[.int .u64 (layK f 13), .int .u64 (layM f 13)]) ∧ w' = w := by
  rw [layK_top f 13 (by omega), ← overK_8 f, ← overM_13 f]
  exact ovar_13 b off cap _ 0 _ _ _ _ _ _ _ _ _ _ _ _ _ _ _ _ _ _ _ _ _ _ _ _ _ _ _ _ _ _ _ 0 _ _ _ _ _ _ _ _ _ _ _ _ _ _ _ _ _ _ w hm hc (hcell 0 (by omega)) rfl rfl (hcell 1 (by omega)) rfl rfl rfl (hcell 2 (by omega)) rfl rfl rfl (hcell 3 (by omega)) rfl rfl rfl (hcell 4 (by omega)) rfl rfl rfl (hcell 5 (by omega)) rfl rfl rfl (hcell 6 (by omega)) rfl rfl rfl (hcell 7 (by omega)) rfl rfl rfl (hcell 8 (by omega)) rfl rfl (hcell 9 (by omega)) rfl rfl rfl (hcell 10 (by omega)) rfl rfl rfl (hcell 11 (by omega)) rfl rfl rfl (hcell 12 (by omega)) rfl rfl rfl

theorem over_14 (b off cap : Nat) (f : Nat → Int) (w : World) (hm : cap ≤ maxLen) (hc : 14 ≤ cap) (hcell : ∀ i, i < 14 → w.cell? ⟨b, off + i, none⟩ = some (.int .u8 (f i))) :
    Calls Try.prog 34 #[.slice (some ⟨b, off, none⟩) 14 cap] w fun e w' => e = .returned (.tuple #[.int .u64 (layK f 14), .int .u64 (layM f 14)]) ∧ w' = w := by
  rw [layK_top f 14 (by omega), ← overK_8 f, ← overM_14 f]
  exact ovar_14 b off cap _ 0 _ _ _ _ _ _ _ _ _ _ _ _ _ _ _ _ _ _ _ _ _ _ _ _ _ _ _ _ _ _ _ 0 _ _ _ _ _ _ _ _ _ _ _ _ _ _ _ _ _ _ _ _ _ _ w hm hc (hcell 0 (by omega)) rfl rfl (hcell 1 (by omega)) rfl rfl rfl (hcell 2 (by omega)) rfl rfl rfl (hcell 3 (by omega)) rfl rfl rfl (hcell 4 (by omega)) rfl rfl rfl (hcell 5 (by omega)) rfl rfl rfl (hcell 6 (by omega)) rfl rfl rfl (hcell 7 (by omega)) rfl rfl rfl (hcell 8 (by omega)) rfl rfl (hcell 9 (by omega)) rfl rfl rfl (hcell 10 (by omega)) rfl rfl rfl (hcell 11 (by omega)) rfl rfl rfl (hcell 12 (by omega)) rfl rfl rfl (hcell 13 (by omega)) rfl rfl rfl

theorem over_15 (b off cap : Nat) (f : Nat → Int) (w : World) (hm : cap ≤ maxLen) (hc : 15 ≤ cap) (hcell : ∀ i, i < 15 → w.cell? ⟨b, off + i, none⟩ = some (.int .u8 (f i))) :
    Calls Try.prog 34 #[.slice (some ⟨b, off, none⟩) 15 cap] w fun e w' => e = .returned (.tuple #[.int .u64 (layK f 15), .int .u64 (layM f 15)]) ∧ w' = w := by
  rw [layK_top f 15 (by omega), ← overK_8 f, ← overM_15 f]
  exact ovar_15 b off cap _ 0 _ _ _ _ _ _ _ _ _ _ _ _ _ _ _ _ _ _ _ _ _ _ _ _ _ _ _ _ _ _ _ 0 _ _ _ _ _ _ _ _ _ _ _ _ _ _ _ _ _ _ _ _ _ _ _ _ _ _ w hm hc (hcell 0 (by omega)) rfl rfl (hcell 1 (by omega)) rfl rfl rfl (hcell 2 (by omega)) rfl rfl rfl (hcell 3 (by omega)) rfl rfl rfl (hcell 4 (by omega)) rfl rfl rfl (hcell 5 (by omega)) rfl rfl rfl (hcell 6 (by omega)) rfl rfl rfl (hcell 7 (by omega)) rfl rfl rfl (hcell 8 (by omega)) rfl rfl (hcell 9 (by omega)) rfl rfl rfl (hcell 10 (by omega)) rfl rfl rfl (hcell 11 (by omega)) rfl rfl rfl (hcell 12 (by omega)) rfl rfl rfl (hcell 13 (by omega)) rfl rfl rfl (hcell 14 (by omega)) rfl rfl rfl

theorem over_any (b off cap n : Nat) (f : Nat → Int) (w : World) (hn : n ≤ 15) (hm : cap ≤ maxLen) (hc : n ≤ cap) (hcell : ∀ i, i < n → w.cell? ⟨b, off + i, none⟩ = some (.int .u8 (f i))) :
    Calls Try.prog 34 #[.slice (some ⟨b, off, none⟩) n cap] w fun e w' => e = .returned (.tuple #[.int .u64 (layK f n), .int .u64 (layM f n)]) ∧ w' = w := by
  match n, hn, hc, hcell with
  | 0, _, hc, hcell => exact over_0 b off cap f w hm hc hcell
  | 1, _, hc, hcell => exact over_1 b off cap f w hm hc hcell
  | 2, _, hc, hcell => exact over_2 b off cap f w hm hc hcell
  | 3, _, hc, hcell => exact over_3 b off cap f w hm hc hcell
  | 4, _, hc, hcell => exact over_4 b off cap f w hm hc hcell
  | 5, _, hc, hcell => exact over_5 b off cap f w hm hc hcell
  | 6, _, hc, hcell => exact over_6 b off cap f w hm hc hcell
  | 7, _, hc, hcell => exact over_7 b off cap f w hm hc hcell
  | 8, _, hc, hcell => exact over_8 b off cap f w hm hc hcell
  | 9, _, hc, hcell => exact over_9 b off cap f w hm hc hcell
  | 10, _, hc, hcell => exact over_10 b off cap f w hm hc hcell
  | 11, _, hc, hcell => exact over_11 b off cap f w hm hc hcell
  | 12, _, hc, hcell => exact over_12 b off cap f w hm hc hcell
  | 13, _, hc, hcell => exact over_13 b off cap f w hm hc hcell
  | 14, _, hc, hcell => exact over_14 b off cap f w hm hc hcell
  | 15, _, hc, hcell => exact over_15 b off cap f w hm hc hcell
  | n + 16, hn, _, _ => omega

set_option maxRecDepth 20000 in
set_option maxHeartbeats 2000000 in
theorem over_nil (a : Option Addr) (w : World) :
    Calls Try.prog 34 #[.slice a 0 0] w fun e w' => e = .returned (.tuple #[.int .u64 0, .int .u64 0]) ∧ w' = w := by
  go_enter Try.func34, Try.ntmps34
  refine wp_seq_k (fun K0 hK0 => ?_)
  have HK0 : Hid _ := hK0
  clear hK0
  go_wp2
  refine HK0.out _ _ ?_
  refine wp_seq_k (fun K1 hK1 => ?_)
  refine wp_seq_k (fun K2 hK2 => ?_)
  have HK2 : Hid _ := hK2
  clear hK2 HK0
  go_wp2
  refine HK2.out _ _ ?_
  clear HK2
  refine wp_blk (fun Q0 he0 => ?_)
  refine wp_fall (fun J15 Q15 hk15 he15 hn15 hf15 => ?_)
  refine wp_fall (fun J14 Q14 hk14 he14 hn14 hf14 => ?_)
  refine wp_fall (fun J13 Q13 hk13 he13 hn13 hf13 => ?_)
  refine wp_fall (fun J12 Q12 hk12 he12 hn12 hf12 => ?_)
  refine wp_fall (fun J11 Q11 hk11 he11 hn11 hf11 => ?_)
  refine wp_fall (fun J10 Q10 hk10 he10 hn10 hf10 => ?_)
  refine wp_fall (fun J9 Q9 hk9 he9 hn9 hf9 => ?_)
  refine wp_fall (fun J8 Q8 hk8 he8 hn8 hf8 => ?_)
  refine wp_fall (fun J7 Q7 hk7 he7 hn7 hf7 => ?_)
  refine wp_fall (fun J6 Q6 hk6 he6 hn6 hf6 => ?_)
  refine wp_fall (fun J5 Q5 hk5 he5 hn5 hf5 => ?_)
  refine wp_fall (fun J4 Q4 hk4 he4 hn4 hf4 => ?_)
  refine wp_fall (fun J3 Q3 hk3 he3 hn3 hf3 => ?_)
  refine wp_fall (fun J2 Q2 hk2 he2 hn2 hf2 => ?_)
  refine wp_fall (fun J1 Q1 hk1 he1 hn1 hf1 => ?_)
  have HN1 : Hid _ := hn1
  have HE1 : Hid _ := he1
  have HN2 : Hid _ := hn2
  have HE2 : Hid _ := he2
  have HN3 : Hid _ := hn3
  have HE3 : Hid _ := he3
  have HN4 : Hid _ := hn4
  have HE4 : Hid _ := he4
  have HN5 : Hid _ := hn5
  have HE5 : Hid _ := he5
  have HN6 : Hid _ := hn6
  have HE6 : Hid _ := he6
  have HN7 : Hid _ := hn7
  have HE7 : Hid _ := he7
  have HN8 : Hid _ := hn8
  have HE8 : Hid _ := he8
  have HN9 : Hid _ := hn9
  have HE9 : Hid _ := he9
  have HN10 : Hid _ := hn10
  have HE10 : Hid _ := he10
  have HN11 : Hid _ := hn11
  have HE11 : Hid _ := he11
  have HN12 : Hid _ := hn12
  have HE12 : Hid _ := he12
  have HN13 : Hid _ := hn13
  have HE13 : Hid _ := he13
  have HN14 : Hid _ := hn14
  have HE14 : Hid _ := he14
  have HN15 : Hid _ := hn15
  have HE15 : Hid _ := he15
  clear hn1 he1 hn2 he2 hn3 he3 hn4 he4 hn5 he5 hn6 he6 hn7 he7 hn8 he8 hn9 he9 hn10 he10 hn11 he11 hn12 he12 hn13 he13 hn14 he14 hn15 he15
  go_wp2
  refine HN1.out _ _ _ (by decide) ?_
  refine HN2.out _ _ _ (by decide) ?_
  refine HN3.out _ _ _ (by decide) ?_
  refine HN4.out _ _ _ (by decide) ?_
  refine HN5.out _ _ _ (by decide) ?_
  refine HN6.out _ _ _ (by decide) ?_
  refine HN7.out _ _ _ (by decide) ?_
  refine HN8.out _ _ _ (by decide) ?_
  refine HN9.out _ _ _ (by decide) ?_
  refine HN10.out _ _ _ (by decide) ?_
  refine HN11.out _ _ _ (by decide) ?_
  refine HN12.out _ _ _ (by decide) ?_
  refine HN13.out _ _ _ (by decide) ?_
  refine HN14.out _ _ _ (by decide) ?_
  refine HN15.out _ _ _ (by decide) ?_
  go_wp2
  go_ret2
  exact ⟨rfl, rfl⟩


end Mur
end Go.Proofs.Ytfkhcgkobffpiaa
