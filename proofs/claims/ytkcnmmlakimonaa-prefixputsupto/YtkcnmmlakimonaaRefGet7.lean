/-
  The document's own reading of a prefix, its contract: of a response, of a request.
-/
import Derived.Test.YtkcnmmlakimonaaRefGa
namespace Go.Proofs.Ytkcnmmlakimonaa
open Go.RowKit
set_option maxRecDepth 100000
set_option linter.unusedVariables false
set_option linter.unusedSimpArgs false

theorem strOfNums_nil : strOfNums [] = ⟨#[]⟩ := rfl

theorem trR_done (zs : List Int) (h : (trR zs).err = 0) : (trR zs).done ≤ zs.length := by
  unfold trR at h ⊢
  split
  · exact Nat.zero_le _
  · simp only
    omega

set_option maxHeartbeats 8000000 in
theorem rget7_req {w : World} (f : Int) (h0 : 0 ≤ f) (h1 : f ≤ 255) {a : Option Addr} {len cap : Nat} {zs : List Int} (h : IsB w a len cap zs) {Y : Res Pre} (hY : Y = rest2 f zs [] [] 0) :
    Calls Try.prog 9 #[.bool false, .int .u8 f, .slice a len cap, .int .i64 0] w fun e w' => ∃ a1 c1 a2 c2, e = .returned (.tuple #[.agg #[.string (strOfNums Y.val.1), .slice a1 (Y.val.2.1.map keyIt).length c1, .slice a2 (Y.val.2.2.map entryIt).length c2], .int .i64 (place 0 Y), .int .i64 Y.err]) ∧
      Hid (View 5 VI w' a1 (Y.val.2.1.map keyIt).length c1 (Y.val.2.1.map keyIt)) ∧ Hid (View 5 VI w' a2 (Y.val.2.2.map entryIt).length c2 (Y.val.2.2.map entryIt)) ∧ Hid (Below w.heap.size w w') := by
  have H : Hid (IsB w a len cap zs) := h
  have HZ : Hid (zs.length = len) := h.1
  have HN : Hid (Y = rest2 f zs [] [] 0) := hY
  have HB2 : Hid (bitB f 2 = (f / 2 % 2 == 1)) := bitB2 h0 h1
  have HB4 : Hid (bitB f 4 = (f / 4 % 2 == 1)) := bitB4 h0 h1
  have HB8 : Hid (bitB f 8 = (f / 8 % 2 == 1)) := bitB8 h0 h1
  have HD : Hid (0 ≤ len) := Nat.zero_le _
  obtain ⟨w0, hw0⟩ : ∃ w0, w0 = R0 w := ⟨_, rfl⟩
  have HR : Hid (RP w w0 ⟨#[]⟩ none 0 [] none 0 []) := by rw [hw0]; exact rp_start w
  rw [R0] at hw0
  obtain ⟨r0, r1, r2, g0, g1, g2⟩ := three_cells HR.out.1
  obtain ⟨p0, p1, p2, y0, y1, y2⟩ := three_cells HR.out.2.1
  have hsz : w.heap.size + 1 < w0.heap.size := by have := HR.out.2.2.2.2.2; omega
  have hs1 : w.heap.size < w0.heap.size := by omega
  clear h hY
  go_enter Try.func9, Try.ntmps9
  go_upto_region 2 with fail
  rw [← hw0]
  clear hw0
  cases hb2 : (f / 4 % 2 == 1)
  · have HNx : Hid (Y = rest3 [] [] [] (0)) := by
      show _ = _
      rw [HN.out, rest2, opt, HB4.out, hb2]; rfl
    clear HN
    have HN : Hid (Y = rest3 [] [] [] (0)) := HNx
    clear HNx
    have HEQ : Hid (Ending.returned (.tuple #[.agg #[.string ⟨#[]⟩, .slice none 0 0, .slice none 0 0], .int .i64 ((0 : Nat) : Int), .int .i64 0]) = Ending.returned (.tuple #[.agg #[.string (strOfNums Y.val.1), .slice none (Y.val.2.1.map keyIt).length 0, .slice none (Y.val.2.2.map entryIt).length 0], .int .i64 (place 0 Y), .int .i64 Y.err])) := by
      show _ = _
      rw [HN.out]; simp [rest3, place, strOfNums_nil]
    go_wp2_with fail
    exact bodyPost_ret (v := .tuple #[.agg #[.string ⟨#[]⟩, .slice none 0 0, .slice none 0 0], .int .i64 ((0 : Nat) : Int), .int .i64 0]) (by simp [results, Try.results9, go_sem, r0, r1, r2, hs1]) rfl
      ⟨none, 0, none, 0, HEQ.out, by rw [HN.out]; simp only [rest3, List.map_nil]; exact (HR.out.last _ _ _).1, by rw [HN.out]; simp only [rest3, List.map_nil]; exact (HR.out.last _ _ _).2.1, (HR.out.last _ _ _).2.2⟩
  · obtain ⟨X2, hX2⟩ : ∃ X, X = listR (keyR valueR) (zs.drop 0) := ⟨_, rfl⟩
    obtain ⟨d2, hd2⟩ : ∃ d, d = 0 + X2.done := ⟨_, rfl⟩
    obtain ⟨P2, hP2⟩ : ∃ P, P = place 0 X2 := ⟨_, rfl⟩
    obtain ⟨I2, hI2⟩ : ∃ I, I = X2.val.map entryIt := ⟨_, rfl⟩
    have HI2 : Hid (I2 = X2.val.map entryIt) := hI2
    clear hI2
    have HNx : Hid (Y = if X2.err = 0 then rest3 [] [] X2.val (d2) else ⟨default, 0, X2.err⟩) := by
      show _ = _
      rw [HN.out, rest2, opt, HB4.out, hb2, if_pos rfl, ← hX2, ← hd2]
    have HX2 : Hid (X2 = listR (keyR valueR) (zs.drop 0)) := hX2
    have HP2 : Hid (P2 = place 0 X2) := hP2
    have HD2 : Hid (d2 = 0 + X2.done) := hd2
    clear HN hX2 hP2 hd2
    go_wp2_with fail
    refine (rget3_on HR.out H.out 0 HD.out _ (by simp) HX2.out HI2.out HP2.out).mono ?_
    rintro e w2 ⟨b2, k2, rfl, HR2, HO2⟩
    clear r0 r1 r2 g0 g1 g2 p0 p1 p2 y0 y1 y2 hsz hs1
    obtain ⟨r0, r1, r2, g0, g1, g2⟩ := three_cells HR2.out.1
    obtain ⟨p0, p1, p2, y0, y1, y2⟩ := three_cells HR2.out.2.1
    have hsz : w.heap.size + 1 < w2.heap.size := by have := HR2.out.2.2.2.2.2; omega
    have hs1 : w.heap.size < w2.heap.size := by omega
    by_cases he : X2.err = 0
    · obtain rfl : P2 = ((d2 : Nat) : Int) := by rw [HP2.out, place_ok he, HD2.out]
      have HN : Hid (Y = rest3 [] [] X2.val (d2)) := by
        show _ = _
        rw [HNx.out, if_pos he]
      have HRP2 : Hid (RP w (w2.setCell ⟨w.heap.size + 1, 2, none⟩ (.slice b2 I2.length k2)) (⟨#[]⟩) none 0 [] b2 k2 I2) := HR2.out.set2 HO2.out
      rw [he]
      clear HNx he
      have HEQ : Hid (Ending.returned (.tuple #[.agg #[.string ⟨#[]⟩, .slice none 0 0, .slice b2 I2.length k2], .int .i64 ((d2 : Nat) : Int), .int .i64 0]) = Ending.returned (.tuple #[.agg #[.string (strOfNums Y.val.1), .slice none (Y.val.2.1.map keyIt).length 0, .slice b2 (Y.val.2.2.map entryIt).length k2], .int .i64 (place 0 Y), .int .i64 Y.err])) := by
        show _ = _
        rw [HN.out]; simp [rest3, place, strOfNums_nil, HI2.out]
      go_wp2_with fail
      exact bodyPost_ret (v := .tuple #[.agg #[.string ⟨#[]⟩, .slice none 0 0, .slice b2 I2.length k2], .int .i64 ((d2 : Nat) : Int), .int .i64 0]) (by simp [results, Try.results9, go_sem, r0, r1, r2, hs1]) rfl
        ⟨none, 0, b2, k2, HEQ.out, by rw [HN.out]; simp only [rest3, List.map_nil]; exact (HRP2.out.last _ _ _).1, by rw [HN.out]; simp only [rest3]; rw [← HI2.out]; exact (HRP2.out.last _ _ _).2.1, (HRP2.out.last _ _ _).2.2⟩
    · obtain rfl : P2 = 0 := by rw [HP2.out, place_bad he]
      have t : (X2.err == 0) = false := by simpa using he
      have HNN : Hid (Y = ⟨default, 0, X2.err⟩) := by
        show _ = _
        rw [HNx.out, if_neg he]
      have HEQ : Hid (Ending.returned (.tuple #[.agg #[.string ⟨#[]⟩, .slice none 0 0, .slice none 0 0], .int .i64 0, .int .i64 X2.err]) = Ending.returned (.tuple #[.agg #[.string (strOfNums Y.val.1), .slice none (Y.val.2.1.map keyIt).length 0, .slice none (Y.val.2.2.map entryIt).length 0], .int .i64 (place 0 Y), .int .i64 Y.err])) := by
        show _ = _
        have hp : place 0 (⟨default, 0, X2.err⟩ : Res Pre) = 0 := place_bad he
        rw [HNN.out, hp]; rfl
      have HRPe : Hid (Below w.heap.size w (w2.setCell ⟨w.heap.size + 1, 2, none⟩ (.slice b2 I2.length k2))) := (HR2.out.set2 HO2.out).2.2.2.2.1
      clear HNx he
      go_wp2_with fail
      exact bodyPost_ret (v := .tuple #[.agg #[.string ⟨#[]⟩, .slice none 0 0, .slice none 0 0], .int .i64 0, .int .i64 X2.err]) (by simp [results, Try.results9, go_sem, r0, r1, r2, hs1]) rfl
        ⟨none, 0, none, 0, HEQ.out, by rw [HNN.out]; exact view_nil _ _ _, by rw [HNN.out]; exact view_nil _ _ _, HRPe.out.trans (below_three _ _ _ _ _)⟩

set_option maxHeartbeats 8000000 in
theorem rget7_resp {w : World} (f : Int) (h0 : 0 ≤ f) (h1 : f ≤ 255) {a : Option Addr} {len cap : Nat} {zs : List Int} (h : IsB w a len cap zs) {Y : Res Pre} (hY : Y = rest0 f zs) :
    Calls Try.prog 9 #[.bool true, .int .u8 f, .slice a len cap, .int .i64 0] w fun e w' => ∃ a1 c1 a2 c2, e = .returned (.tuple #[.agg #[.string (strOfNums Y.val.1), .slice a1 (Y.val.2.1.map keyIt).length c1, .slice a2 (Y.val.2.2.map entryIt).length c2], .int .i64 (place 0 Y), .int .i64 Y.err]) ∧
      Hid (View 5 VI w' a1 (Y.val.2.1.map keyIt).length c1 (Y.val.2.1.map keyIt)) ∧ Hid (View 5 VI w' a2 (Y.val.2.2.map entryIt).length c2 (Y.val.2.2.map entryIt)) ∧ Hid (Below w.heap.size w w') := by
  have H : Hid (IsB w a len cap zs) := h
  have HZ : Hid (zs.length = len) := h.1
  have HN : Hid (Y = rest0 f zs) := hY
  have HB2 : Hid (bitB f 2 = (f / 2 % 2 == 1)) := bitB2 h0 h1
  have HB4 : Hid (bitB f 4 = (f / 4 % 2 == 1)) := bitB4 h0 h1
  have HB8 : Hid (bitB f 8 = (f / 8 % 2 == 1)) := bitB8 h0 h1
  have HD : Hid (0 ≤ len) := Nat.zero_le _
  obtain ⟨w0, hw0⟩ : ∃ w0, w0 = R0 w := ⟨_, rfl⟩
  have HR : Hid (RP w w0 ⟨#[]⟩ none 0 [] none 0 []) := by rw [hw0]; exact rp_start w
  rw [R0] at hw0
  obtain ⟨r0, r1, r2, g0, g1, g2⟩ := three_cells HR.out.1
  obtain ⟨p0, p1, p2, y0, y1, y2⟩ := three_cells HR.out.2.1
  have hsz : w.heap.size + 1 < w0.heap.size := by have := HR.out.2.2.2.2.2; omega
  have hs1 : w.heap.size < w0.heap.size := by omega
  clear h hY
  go_enter Try.func9, Try.ntmps9
  go_upto_region 2 with fail
  rw [← hw0]
  clear hw0
  cases hb0 : (f / 2 % 2 == 1)
  · have HNx : Hid (Y = rest1 f zs [] (0)) := by
      show _ = _
      rw [HN.out, rest0, opt, HB2.out, hb0]; rfl
    clear HN
    have HN : Hid (Y = rest1 f zs [] (0)) := HNx
    clear HNx
    cases hb1 : (f / 8 % 2 == 1)
    · have HNx : Hid (Y = rest2 f zs [] [] (0)) := by
        show _ = _
        rw [HN.out, rest1, opt, HB8.out, hb1]; rfl
      clear HN
      have HN : Hid (Y = rest2 f zs [] [] (0)) := HNx
      clear HNx
      cases hb2 : (f / 4 % 2 == 1)
      · have HNx : Hid (Y = rest3 [] [] [] (0)) := by
          show _ = _
          rw [HN.out, rest2, opt, HB4.out, hb2]; rfl
        clear HN
        have HN : Hid (Y = rest3 [] [] [] (0)) := HNx
        clear HNx
        have HEQ : Hid (Ending.returned (.tuple #[.agg #[.string ⟨#[]⟩, .slice none 0 0, .slice none 0 0], .int .i64 ((0 : Nat) : Int), .int .i64 0]) = Ending.returned (.tuple #[.agg #[.string (strOfNums Y.val.1), .slice none (Y.val.2.1.map keyIt).length 0, .slice none (Y.val.2.2.map entryIt).length 0], .int .i64 (place 0 Y), .int .i64 Y.err])) := by
          show _ = _
          rw [HN.out]; simp [rest3, place, strOfNums_nil]
        go_wp2_with fail
        exact bodyPost_ret (v := .tuple #[.agg #[.string ⟨#[]⟩, .slice none 0 0, .slice none 0 0], .int .i64 ((0 : Nat) : Int), .int .i64 0]) (by simp [results, Try.results9, go_sem, r0, r1, r2, hs1]) rfl
          ⟨none, 0, none, 0, HEQ.out, by rw [HN.out]; simp only [rest3, List.map_nil]; exact (HR.out.last _ _ _).1, by rw [HN.out]; simp only [rest3, List.map_nil]; exact (HR.out.last _ _ _).2.1, (HR.out.last _ _ _).2.2⟩
      · obtain ⟨X2, hX2⟩ : ∃ X, X = listR (keyR valueR) (zs.drop 0) := ⟨_, rfl⟩
        obtain ⟨d2, hd2⟩ : ∃ d, d = 0 + X2.done := ⟨_, rfl⟩
        obtain ⟨P2, hP2⟩ : ∃ P, P = place 0 X2 := ⟨_, rfl⟩
        obtain ⟨I2, hI2⟩ : ∃ I, I = X2.val.map entryIt := ⟨_, rfl⟩
        have HI2 : Hid (I2 = X2.val.map entryIt) := hI2
        clear hI2
        have HNx : Hid (Y = if X2.err = 0 then rest3 [] [] X2.val (d2) else ⟨default, 0, X2.err⟩) := by
          show _ = _
          rw [HN.out, rest2, opt, HB4.out, hb2, if_pos rfl, ← hX2, ← hd2]
        have HX2 : Hid (X2 = listR (keyR valueR) (zs.drop 0)) := hX2
        have HP2 : Hid (P2 = place 0 X2) := hP2
        have HD2 : Hid (d2 = 0 + X2.done) := hd2
        clear HN hX2 hP2 hd2
        go_wp2_with fail
        refine (rget3_on HR.out H.out 0 HD.out _ (by simp) HX2.out HI2.out HP2.out).mono ?_
        rintro e w2 ⟨b2, k2, rfl, HR2, HO2⟩
        clear r0 r1 r2 g0 g1 g2 p0 p1 p2 y0 y1 y2 hsz hs1
        obtain ⟨r0, r1, r2, g0, g1, g2⟩ := three_cells HR2.out.1
        obtain ⟨p0, p1, p2, y0, y1, y2⟩ := three_cells HR2.out.2.1
        have hsz : w.heap.size + 1 < w2.heap.size := by have := HR2.out.2.2.2.2.2; omega
        have hs1 : w.heap.size < w2.heap.size := by omega
        by_cases he : X2.err = 0
        · obtain rfl : P2 = ((d2 : Nat) : Int) := by rw [HP2.out, place_ok he, HD2.out]
          have HN : Hid (Y = rest3 [] [] X2.val (d2)) := by
            show _ = _
            rw [HNx.out, if_pos he]
          have HRP2 : Hid (RP w (w2.setCell ⟨w.heap.size + 1, 2, none⟩ (.slice b2 I2.length k2)) (⟨#[]⟩) none 0 [] b2 k2 I2) := HR2.out.set2 HO2.out
          rw [he]
          clear HNx he
          have HEQ : Hid (Ending.returned (.tuple #[.agg #[.string ⟨#[]⟩, .slice none 0 0, .slice b2 I2.length k2], .int .i64 ((d2 : Nat) : Int), .int .i64 0]) = Ending.returned (.tuple #[.agg #[.string (strOfNums Y.val.1), .slice none (Y.val.2.1.map keyIt).length 0, .slice b2 (Y.val.2.2.map entryIt).length k2], .int .i64 (place 0 Y), .int .i64 Y.err])) := by
            show _ = _
            rw [HN.out]; simp [rest3, place, strOfNums_nil, HI2.out]
          go_wp2_with fail
          exact bodyPost_ret (v := .tuple #[.agg #[.string ⟨#[]⟩, .slice none 0 0, .slice b2 I2.length k2], .int .i64 ((d2 : Nat) : Int), .int .i64 0]) (by simp [results, Try.results9, go_sem, r0, r1, r2, hs1]) rfl
            ⟨none, 0, b2, k2, HEQ.out, by rw [HN.out]; simp only [rest3, List.map_nil]; exact (HRP2.out.last _ _ _).1, by rw [HN.out]; simp only [rest3]; rw [← HI2.out]; exact (HRP2.out.last _ _ _).2.1, (HRP2.out.last _ _ _).2.2⟩
        · obtain rfl : P2 = 0 := by rw [HP2.out, place_bad he]
          have t : (X2.err == 0) = false := by simpa using he
          have HNN : Hid (Y = ⟨default, 0, X2.err⟩) := by
            show _ = _
            rw [HNx.out, if_neg he]
          have HEQ : Hid (Ending.returned (.tuple #[.agg #[.string ⟨#[]⟩, .slice none 0 0, .slice none 0 0], .int .i64 0, .int .i64 X2.err]) = Ending.returned (.tuple #[.agg #[.string (strOfNums Y.val.1), .slice none (Y.val.2.1.map keyIt).length 0, .slice none (Y.val.2.2.map entryIt).length 0], .int .i64 (place 0 Y), .int .i64 Y.err])) := by
            show _ = _
            have hp : place 0 (⟨default, 0, X2.err⟩ : Res Pre) = 0 := place_bad he
            rw [HNN.out, hp]; rfl
          have HRPe : Hid (Below w.heap.size w (w2.setCell ⟨w.heap.size + 1, 2, none⟩ (.slice b2 I2.length k2))) := (HR2.out.set2 HO2.out).2.2.2.2.1
          clear HNx he
          go_wp2_with fail
          exact bodyPost_ret (v := .tuple #[.agg #[.string ⟨#[]⟩, .slice none 0 0, .slice none 0 0], .int .i64 0, .int .i64 X2.err]) (by simp [results, Try.results9, go_sem, r0, r1, r2, hs1]) rfl
            ⟨none, 0, none, 0, HEQ.out, by rw [HNN.out]; exact view_nil _ _ _, by rw [HNN.out]; exact view_nil _ _ _, HRPe.out.trans (below_three _ _ _ _ _)⟩
    · obtain ⟨X1, hX1⟩ : ∃ X, X = listR textR (zs.drop 0) := ⟨_, rfl⟩
      obtain ⟨d1, hd1⟩ : ∃ d, d = 0 + X1.done := ⟨_, rfl⟩
      obtain ⟨P1, hP1⟩ : ∃ P, P = place 0 X1 := ⟨_, rfl⟩
      obtain ⟨I1, hI1⟩ : ∃ I, I = X1.val.map keyIt := ⟨_, rfl⟩
      have HI1 : Hid (I1 = X1.val.map keyIt) := hI1
      clear hI1
      have HNx : Hid (Y = if X1.err = 0 then rest2 f zs [] X1.val (d1) else ⟨default, 0, X1.err⟩) := by
        show _ = _
        rw [HN.out, rest1, opt, HB8.out, hb1, if_pos rfl, ← hX1, ← hd1]
      have HX1 : Hid (X1 = listR textR (zs.drop 0)) := hX1
      have HP1 : Hid (P1 = place 0 X1) := hP1
      have HD1 : Hid (d1 = 0 + X1.done) := hd1
      clear HN hX1 hP1 hd1
      go_wp2_with fail
      refine (rget0_on HR.out H.out 0 HD.out _ (by simp) HX1.out HI1.out HP1.out).mono ?_
      rintro e w1 ⟨b1, k1, rfl, HR1, HO1⟩
      clear r0 r1 r2 g0 g1 g2 p0 p1 p2 y0 y1 y2 hsz hs1
      obtain ⟨r0, r1, r2, g0, g1, g2⟩ := three_cells HR1.out.1
      obtain ⟨p0, p1, p2, y0, y1, y2⟩ := three_cells HR1.out.2.1
      have hsz : w.heap.size + 1 < w1.heap.size := by have := HR1.out.2.2.2.2.2; omega
      have hs1 : w.heap.size < w1.heap.size := by omega
      by_cases he : X1.err = 0
      · obtain rfl : P1 = ((d1 : Nat) : Int) := by rw [HP1.out, place_ok he, HD1.out]
        have HN : Hid (Y = rest2 f zs [] X1.val (d1)) := by
          show _ = _
          rw [HNx.out, if_pos he]
        have HDx : Hid (d1 ≤ len) := by
          show _ ≤ _
          have h1 := listR_done (zs.drop 0) (by rw [← HX1.out]; exact he)
          rw [← HX1.out, List.length_drop, HZ.out] at h1
          have h2 := HD.out
          have h3 := HD1.out
          omega
        clear HD
        have HD : Hid (d1 ≤ len) := HDx
        clear HDx
        have HRP1 : Hid (RP w (w1.setCell ⟨w.heap.size + 1, 1, none⟩ (.slice b1 I1.length k1)) (⟨#[]⟩) b1 k1 I1 none 0 []) := HR1.out.set1 HO1.out
        rw [he]
        clear HNx he
        cases hb2 : (f / 4 % 2 == 1)
        · have HNx : Hid (Y = rest3 [] X1.val [] (d1)) := by
            show _ = _
            rw [HN.out, rest2, opt, HB4.out, hb2]; rfl
          clear HN
          have HN : Hid (Y = rest3 [] X1.val [] (d1)) := HNx
          clear HNx
          have HEQ : Hid (Ending.returned (.tuple #[.agg #[.string ⟨#[]⟩, .slice b1 I1.length k1, .slice none 0 0], .int .i64 ((d1 : Nat) : Int), .int .i64 0]) = Ending.returned (.tuple #[.agg #[.string (strOfNums Y.val.1), .slice b1 (Y.val.2.1.map keyIt).length k1, .slice none (Y.val.2.2.map entryIt).length 0], .int .i64 (place 0 Y), .int .i64 Y.err])) := by
            show _ = _
            rw [HN.out]; simp [rest3, place, strOfNums_nil, HI1.out]
          go_wp2_with fail
          exact bodyPost_ret (v := .tuple #[.agg #[.string ⟨#[]⟩, .slice b1 I1.length k1, .slice none 0 0], .int .i64 ((d1 : Nat) : Int), .int .i64 0]) (by simp [results, Try.results9, go_sem, r0, r1, r2, hs1]) rfl
            ⟨b1, k1, none, 0, HEQ.out, by rw [HN.out]; simp only [rest3]; rw [← HI1.out]; exact (HRP1.out.last _ _ _).1, by rw [HN.out]; simp only [rest3, List.map_nil]; exact (HRP1.out.last _ _ _).2.1, (HRP1.out.last _ _ _).2.2⟩
        · obtain ⟨X2, hX2⟩ : ∃ X, X = listR (keyR valueR) (zs.drop d1) := ⟨_, rfl⟩
          obtain ⟨d2, hd2⟩ : ∃ d, d = d1 + X2.done := ⟨_, rfl⟩
          obtain ⟨P2, hP2⟩ : ∃ P, P = place d1 X2 := ⟨_, rfl⟩
          obtain ⟨I2, hI2⟩ : ∃ I, I = X2.val.map entryIt := ⟨_, rfl⟩
          have HI2 : Hid (I2 = X2.val.map entryIt) := hI2
          clear hI2
          have HNx : Hid (Y = if X2.err = 0 then rest3 [] X1.val X2.val (d2) else ⟨default, 0, X2.err⟩) := by
            show _ = _
            rw [HN.out, rest2, opt, HB4.out, hb2, if_pos rfl, ← hX2, ← hd2]
          have HX2 : Hid (X2 = listR (keyR valueR) (zs.drop d1)) := hX2
          have HP2 : Hid (P2 = place d1 X2) := hP2
          have HD2 : Hid (d2 = d1 + X2.done) := hd2
          clear HN hX2 hP2 hd2
          go_wp2_with fail
          refine (rget3_on HRP1.out H.out d1 HD.out _ (by simp) HX2.out HI2.out HP2.out).mono ?_
          rintro e w2 ⟨b2, k2, rfl, HR2, HO2⟩
          clear r0 r1 r2 g0 g1 g2 p0 p1 p2 y0 y1 y2 hsz hs1
          obtain ⟨r0, r1, r2, g0, g1, g2⟩ := three_cells HR2.out.1
          obtain ⟨p0, p1, p2, y0, y1, y2⟩ := three_cells HR2.out.2.1
          have hsz : w.heap.size + 1 < w2.heap.size := by have := HR2.out.2.2.2.2.2; omega
          have hs1 : w.heap.size < w2.heap.size := by omega
          by_cases he : X2.err = 0
          · obtain rfl : P2 = ((d2 : Nat) : Int) := by rw [HP2.out, place_ok he, HD2.out]
            have HN : Hid (Y = rest3 [] X1.val X2.val (d2)) := by
              show _ = _
              rw [HNx.out, if_pos he]
            have HRP2 : Hid (RP w (w2.setCell ⟨w.heap.size + 1, 2, none⟩ (.slice b2 I2.length k2)) (⟨#[]⟩) b1 k1 I1 b2 k2 I2) := HR2.out.set2 HO2.out
            rw [he]
            clear HNx he
            have HEQ : Hid (Ending.returned (.tuple #[.agg #[.string ⟨#[]⟩, .slice b1 I1.length k1, .slice b2 I2.length k2], .int .i64 ((d2 : Nat) : Int), .int .i64 0]) = Ending.returned (.tuple #[.agg #[.string (strOfNums Y.val.1), .slice b1 (Y.val.2.1.map keyIt).length k1, .slice b2 (Y.val.2.2.map entryIt).length k2], .int .i64 (place 0 Y), .int .i64 Y.err])) := by
              show _ = _
              rw [HN.out]; simp [rest3, place, strOfNums_nil, HI1.out, HI2.out]
            go_wp2_with fail
            exact bodyPost_ret (v := .tuple #[.agg #[.string ⟨#[]⟩, .slice b1 I1.length k1, .slice b2 I2.length k2], .int .i64 ((d2 : Nat) : Int), .int .i64 0]) (by simp [results, Try.results9, go_sem, r0, r1, r2, hs1]) rfl
              ⟨b1, k1, b2, k2, HEQ.out, by rw [HN.out]; simp only [rest3]; rw [← HI1.out]; exact (HRP2.out.last _ _ _).1, by rw [HN.out]; simp only [rest3]; rw [← HI2.out]; exact (HRP2.out.last _ _ _).2.1, (HRP2.out.last _ _ _).2.2⟩
          · obtain rfl : P2 = 0 := by rw [HP2.out, place_bad he]
            have t : (X2.err == 0) = false := by simpa using he
            have HNN : Hid (Y = ⟨default, 0, X2.err⟩) := by
              show _ = _
              rw [HNx.out, if_neg he]
            have HEQ : Hid (Ending.returned (.tuple #[.agg #[.string ⟨#[]⟩, .slice none 0 0, .slice none 0 0], .int .i64 0, .int .i64 X2.err]) = Ending.returned (.tuple #[.agg #[.string (strOfNums Y.val.1), .slice none (Y.val.2.1.map keyIt).length 0, .slice none (Y.val.2.2.map entryIt).length 0], .int .i64 (place 0 Y), .int .i64 Y.err])) := by
              show _ = _
              have hp : place 0 (⟨default, 0, X2.err⟩ : Res Pre) = 0 := place_bad he
              rw [HNN.out, hp]; rfl
            have HRPe : Hid (Below w.heap.size w (w2.setCell ⟨w.heap.size + 1, 2, none⟩ (.slice b2 I2.length k2))) := (HR2.out.set2 HO2.out).2.2.2.2.1
            clear HNx he
            go_wp2_with fail
            exact bodyPost_ret (v := .tuple #[.agg #[.string ⟨#[]⟩, .slice none 0 0, .slice none 0 0], .int .i64 0, .int .i64 X2.err]) (by simp [results, Try.results9, go_sem, r0, r1, r2, hs1]) rfl
              ⟨none, 0, none, 0, HEQ.out, by rw [HNN.out]; exact view_nil _ _ _, by rw [HNN.out]; exact view_nil _ _ _, HRPe.out.trans (below_three _ _ _ _ _)⟩
      · obtain rfl : P1 = 0 := by rw [HP1.out, place_bad he]
        have t : (X1.err == 0) = false := by simpa using he
        have HNN : Hid (Y = ⟨default, 0, X1.err⟩) := by
          show _ = _
          rw [HNx.out, if_neg he]
        have HEQ : Hid (Ending.returned (.tuple #[.agg #[.string ⟨#[]⟩, .slice none 0 0, .slice none 0 0], .int .i64 0, .int .i64 X1.err]) = Ending.returned (.tuple #[.agg #[.string (strOfNums Y.val.1), .slice none (Y.val.2.1.map keyIt).length 0, .slice none (Y.val.2.2.map entryIt).length 0], .int .i64 (place 0 Y), .int .i64 Y.err])) := by
          show _ = _
          have hp : place 0 (⟨default, 0, X1.err⟩ : Res Pre) = 0 := place_bad he
          rw [HNN.out, hp]; rfl
        have HRPe : Hid (Below w.heap.size w (w1.setCell ⟨w.heap.size + 1, 1, none⟩ (.slice b1 I1.length k1))) := (HR1.out.set1 HO1.out).2.2.2.2.1
        clear HNx he
        go_wp2_with fail
        exact bodyPost_ret (v := .tuple #[.agg #[.string ⟨#[]⟩, .slice none 0 0, .slice none 0 0], .int .i64 0, .int .i64 X1.err]) (by simp [results, Try.results9, go_sem, r0, r1, r2, hs1]) rfl
          ⟨none, 0, none, 0, HEQ.out, by rw [HNN.out]; exact view_nil _ _ _, by rw [HNN.out]; exact view_nil _ _ _, HRPe.out.trans (below_three _ _ _ _ _)⟩
  · obtain ⟨X0, hX0⟩ : ∃ X, X = trR (zs.drop 0) := ⟨_, rfl⟩
    obtain ⟨d0, hd0⟩ : ∃ d, d = 0 + X0.done := ⟨_, rfl⟩
    obtain ⟨P0, hP0⟩ : ∃ P, P = place 0 X0 := ⟨_, rfl⟩
    obtain ⟨s0, hs0⟩ : ∃ s, s = strOfNums X0.val := ⟨_, rfl⟩
    have HS : Hid (s0 = strOfNums X0.val) := hs0
    clear hs0
    have HNx : Hid (Y = if X0.err = 0 then rest1 f zs X0.val (d0) else ⟨default, 0, X0.err⟩) := by
      show _ = _
      rw [HN.out, rest0, opt, HB2.out, hb0, if_pos rfl, ← hX0, ← hd0]
    have HX0 : Hid (X0 = trR (zs.drop 0)) := hX0
    have HP0 : Hid (P0 = place 0 X0) := hP0
    have HD0 : Hid (d0 = 0 + X0.done) := hd0
    clear HN hX0 hP0 hd0
    go_wp2_with fail
    refine (run16 (H.out.old HR.out.2.2.2.2.1) 0 HD.out _ (by simp) HX0.out HS.out HP0.out).mono ?_
    rintro e w0 ⟨rfl, rfl⟩
    by_cases he : X0.err = 0
    · obtain rfl : P0 = ((d0 : Nat) : Int) := by rw [HP0.out, place_ok he, HD0.out]
      have HN : Hid (Y = rest1 f zs X0.val (d0)) := by
        show _ = _
        rw [HNx.out, if_pos he]
      have HDx : Hid (d0 ≤ len) := by
        show _ ≤ _
        have h1 := trR_done (zs.drop 0) (by rw [← HX0.out]; exact he)
        rw [← HX0.out, List.length_drop, HZ.out] at h1
        have h2 := HD.out
        have h3 := HD0.out
        omega
      clear HD
      have HD : Hid (d0 ≤ len) := HDx
      clear HDx
      have HRP0 : Hid (RP w (w0.setCell ⟨w.heap.size + 1, 0, none⟩ (.string s0)) (s0) none 0 [] none 0 []) := HR.out.set0 _
      rw [he]
      clear HNx he
      cases hb1 : (f / 8 % 2 == 1)
      · have HNx : Hid (Y = rest2 f zs X0.val [] (d0)) := by
          show _ = _
          rw [HN.out, rest1, opt, HB8.out, hb1]; rfl
        clear HN
        have HN : Hid (Y = rest2 f zs X0.val [] (d0)) := HNx
        clear HNx
        cases hb2 : (f / 4 % 2 == 1)
        · have HNx : Hid (Y = rest3 X0.val [] [] (d0)) := by
            show _ = _
            rw [HN.out, rest2, opt, HB4.out, hb2]; rfl
          clear HN
          have HN : Hid (Y = rest3 X0.val [] [] (d0)) := HNx
          clear HNx
          have HEQ : Hid (Ending.returned (.tuple #[.agg #[.string s0, .slice none 0 0, .slice none 0 0], .int .i64 ((d0 : Nat) : Int), .int .i64 0]) = Ending.returned (.tuple #[.agg #[.string (strOfNums Y.val.1), .slice none (Y.val.2.1.map keyIt).length 0, .slice none (Y.val.2.2.map entryIt).length 0], .int .i64 (place 0 Y), .int .i64 Y.err])) := by
            show _ = _
            rw [HN.out]; simp [rest3, place, strOfNums_nil, HS.out]
          go_wp2_with fail
          exact bodyPost_ret (v := .tuple #[.agg #[.string s0, .slice none 0 0, .slice none 0 0], .int .i64 ((d0 : Nat) : Int), .int .i64 0]) (by simp [results, Try.results9, go_sem, r0, r1, r2, hs1]) rfl
            ⟨none, 0, none, 0, HEQ.out, by rw [HN.out]; simp only [rest3, List.map_nil]; exact (HRP0.out.last _ _ _).1, by rw [HN.out]; simp only [rest3, List.map_nil]; exact (HRP0.out.last _ _ _).2.1, (HRP0.out.last _ _ _).2.2⟩
        · obtain ⟨X2, hX2⟩ : ∃ X, X = listR (keyR valueR) (zs.drop d0) := ⟨_, rfl⟩
          obtain ⟨d2, hd2⟩ : ∃ d, d = d0 + X2.done := ⟨_, rfl⟩
          obtain ⟨P2, hP2⟩ : ∃ P, P = place d0 X2 := ⟨_, rfl⟩
          obtain ⟨I2, hI2⟩ : ∃ I, I = X2.val.map entryIt := ⟨_, rfl⟩
          have HI2 : Hid (I2 = X2.val.map entryIt) := hI2
          clear hI2
          have HNx : Hid (Y = if X2.err = 0 then rest3 X0.val [] X2.val (d2) else ⟨default, 0, X2.err⟩) := by
            show _ = _
            rw [HN.out, rest2, opt, HB4.out, hb2, if_pos rfl, ← hX2, ← hd2]
          have HX2 : Hid (X2 = listR (keyR valueR) (zs.drop d0)) := hX2
          have HP2 : Hid (P2 = place d0 X2) := hP2
          have HD2 : Hid (d2 = d0 + X2.done) := hd2
          clear HN hX2 hP2 hd2
          go_wp2_with fail
          refine (rget3_on HRP0.out H.out d0 HD.out _ (by simp) HX2.out HI2.out HP2.out).mono ?_
          rintro e w2 ⟨b2, k2, rfl, HR2, HO2⟩
          clear r0 r1 r2 g0 g1 g2 p0 p1 p2 y0 y1 y2 hsz hs1
          obtain ⟨r0, r1, r2, g0, g1, g2⟩ := three_cells HR2.out.1
          obtain ⟨p0, p1, p2, y0, y1, y2⟩ := three_cells HR2.out.2.1
          have hsz : w.heap.size + 1 < w2.heap.size := by have := HR2.out.2.2.2.2.2; omega
          have hs1 : w.heap.size < w2.heap.size := by omega
          by_cases he : X2.err = 0
          · obtain rfl : P2 = ((d2 : Nat) : Int) := by rw [HP2.out, place_ok he, HD2.out]
            have HN : Hid (Y = rest3 X0.val [] X2.val (d2)) := by
              show _ = _
              rw [HNx.out, if_pos he]
            have HRP2 : Hid (RP w (w2.setCell ⟨w.heap.size + 1, 2, none⟩ (.slice b2 I2.length k2)) (s0) none 0 [] b2 k2 I2) := HR2.out.set2 HO2.out
            rw [he]
            clear HNx he
            have HEQ : Hid (Ending.returned (.tuple #[.agg #[.string s0, .slice none 0 0, .slice b2 I2.length k2], .int .i64 ((d2 : Nat) : Int), .int .i64 0]) = Ending.returned (.tuple #[.agg #[.string (strOfNums Y.val.1), .slice none (Y.val.2.1.map keyIt).length 0, .slice b2 (Y.val.2.2.map entryIt).length k2], .int .i64 (place 0 Y), .int .i64 Y.err])) := by
              show _ = _
              rw [HN.out]; simp [rest3, place, strOfNums_nil, HS.out, HI2.out]
            go_wp2_with fail
            exact bodyPost_ret (v := .tuple #[.agg #[.string s0, .slice none 0 0, .slice b2 I2.length k2], .int .i64 ((d2 : Nat) : Int), .int .i64 0]) (by simp [results, Try.results9, go_sem, r0, r1, r2, hs1]) rfl
              ⟨none, 0, b2, k2, HEQ.out, by rw [HN.out]; simp only [rest3, List.map_nil]; exact (HRP2.out.last _ _ _).1, by rw [HN.out]; simp only [rest3]; rw [← HI2.out]; exact (HRP2.out.last _ _ _).2.1, (HRP2.out.last _ _ _).2.2⟩
          · obtain rfl : P2 = 0 := by rw [HP2.out, place_bad he]
            have t : (X2.err == 0) = false := by simpa using he
            have HNN : Hid (Y = ⟨default, 0, X2.err⟩) := by
              show _ = _
              rw [HNx.out, if_neg he]
            have HEQ : Hid (Ending.returned (.tuple #[.agg #[.string ⟨#[]⟩, .slice none 0 0, .slice none 0 0], .int .i64 0, .int .i64 X2.err]) = Ending.returned (.tuple #[.agg #[.string (strOfNums Y.val.1), .slice none (Y.val.2.1.map keyIt).length 0, .slice none (Y.val.2.2.map entryIt).length 0], .int .i64 (place 0 Y), .int .i64 Y.err])) := by
              show _ = _
              have hp : place 0 (⟨default, 0, X2.err⟩ : Res Pre) = 0 := place_bad he
              rw [HNN.out, hp]; rfl
            have HRPe : Hid (Below w.heap.size w (w2.setCell ⟨w.heap.size + 1, 2, none⟩ (.slice b2 I2.length k2))) := (HR2.out.set2 HO2.out).2.2.2.2.1
            clear HNx he
            go_wp2_with fail
            exact bodyPost_ret (v := .tuple #[.agg #[.string ⟨#[]⟩, .slice none 0 0, .slice none 0 0], .int .i64 0, .int .i64 X2.err]) (by simp [results, Try.results9, go_sem, r0, r1, r2, hs1]) rfl
              ⟨none, 0, none, 0, HEQ.out, by rw [HNN.out]; exact view_nil _ _ _, by rw [HNN.out]; exact view_nil _ _ _, HRPe.out.trans (below_three _ _ _ _ _)⟩
      · obtain ⟨X1, hX1⟩ : ∃ X, X = listR textR (zs.drop d0) := ⟨_, rfl⟩
        obtain ⟨d1, hd1⟩ : ∃ d, d = d0 + X1.done := ⟨_, rfl⟩
        obtain ⟨P1, hP1⟩ : ∃ P, P = place d0 X1 := ⟨_, rfl⟩
        obtain ⟨I1, hI1⟩ : ∃ I, I = X1.val.map keyIt := ⟨_, rfl⟩
        have HI1 : Hid (I1 = X1.val.map keyIt) := hI1
        clear hI1
        have HNx : Hid (Y = if X1.err = 0 then rest2 f zs X0.val X1.val (d1) else ⟨default, 0, X1.err⟩) := by
          show _ = _
          rw [HN.out, rest1, opt, HB8.out, hb1, if_pos rfl, ← hX1, ← hd1]
        have HX1 : Hid (X1 = listR textR (zs.drop d0)) := hX1
        have HP1 : Hid (P1 = place d0 X1) := hP1
        have HD1 : Hid (d1 = d0 + X1.done) := hd1
        clear HN hX1 hP1 hd1
        go_wp2_with fail
        refine (rget0_on HRP0.out H.out d0 HD.out _ (by simp) HX1.out HI1.out HP1.out).mono ?_
        rintro e w1 ⟨b1, k1, rfl, HR1, HO1⟩
        clear r0 r1 r2 g0 g1 g2 p0 p1 p2 y0 y1 y2 hsz hs1
        obtain ⟨r0, r1, r2, g0, g1, g2⟩ := three_cells HR1.out.1
        obtain ⟨p0, p1, p2, y0, y1, y2⟩ := three_cells HR1.out.2.1
        have hsz : w.heap.size + 1 < w1.heap.size := by have := HR1.out.2.2.2.2.2; omega
        have hs1 : w.heap.size < w1.heap.size := by omega
        by_cases he : X1.err = 0
        · obtain rfl : P1 = ((d1 : Nat) : Int) := by rw [HP1.out, place_ok he, HD1.out]
          have HN : Hid (Y = rest2 f zs X0.val X1.val (d1)) := by
            show _ = _
            rw [HNx.out, if_pos he]
          have HDx : Hid (d1 ≤ len) := by
            show _ ≤ _
            have h1 := listR_done (zs.drop d0) (by rw [← HX1.out]; exact he)
            rw [← HX1.out, List.length_drop, HZ.out] at h1
            have h2 := HD.out
            have h3 := HD1.out
            omega
          clear HD
          have HD : Hid (d1 ≤ len) := HDx
          clear HDx
          have HRP1 : Hid (RP w (w1.setCell ⟨w.heap.size + 1, 1, none⟩ (.slice b1 I1.length k1)) (s0) b1 k1 I1 none 0 []) := HR1.out.set1 HO1.out
          rw [he]
          clear HNx he
          cases hb2 : (f / 4 % 2 == 1)
          · have HNx : Hid (Y = rest3 X0.val X1.val [] (d1)) := by
              show _ = _
              rw [HN.out, rest2, opt, HB4.out, hb2]; rfl
            clear HN
            have HN : Hid (Y = rest3 X0.val X1.val [] (d1)) := HNx
            clear HNx
            have HEQ : Hid (Ending.returned (.tuple #[.agg #[.string s0, .slice b1 I1.length k1, .slice none 0 0], .int .i64 ((d1 : Nat) : Int), .int .i64 0]) = Ending.returned (.tuple #[.agg #[.string (strOfNums Y.val.1), .slice b1 (Y.val.2.1.map keyIt).length k1, .slice none (Y.val.2.2.map entryIt).length 0], .int .i64 (place 0 Y), .int .i64 Y.err])) := by
              show _ = _
              rw [HN.out]; simp [rest3, place, strOfNums_nil, HS.out, HI1.out]
            go_wp2_with fail
            exact bodyPost_ret (v := .tuple #[.agg #[.string s0, .slice b1 I1.length k1, .slice none 0 0], .int .i64 ((d1 : Nat) : Int), .int .i64 0]) (by simp [results, Try.results9, go_sem, r0, r1, r2, hs1]) rfl
              ⟨b1, k1, none, 0, HEQ.out, by rw [HN.out]; simp only [rest3]; rw [← HI1.out]; exact (HRP1.out.last _ _ _).1, by rw [HN.out]; simp only [rest3, List.map_nil]; exact (HRP1.out.last _ _ _).2.1, (HRP1.out.last _ _ _).2.2⟩
          · obtain ⟨X2, hX2⟩ : ∃ X, X = listR (keyR valueR) (zs.drop d1) := ⟨_, rfl⟩
            obtain ⟨d2, hd2⟩ : ∃ d, d = d1 + X2.done := ⟨_, rfl⟩
            obtain ⟨P2, hP2⟩ : ∃ P, P = place d1 X2 := ⟨_, rfl⟩
            obtain ⟨I2, hI2⟩ : ∃ I, I = X2.val.map entryIt := ⟨_, rfl⟩
            have HI2 : Hid (I2 = X2.val.map entryIt) := hI2
            clear hI2
            have HNx : Hid (Y = if X2.err = 0 then rest3 X0.val X1.val X2.val (d2) else ⟨default, 0, X2.err⟩) := by
              show _ = _
              rw [HN.out, rest2, opt, HB4.out, hb2, if_pos rfl, ← hX2, ← hd2]
            have HX2 : Hid (X2 = listR (keyR valueR) (zs.drop d1)) := hX2
            have HP2 : Hid (P2 = place d1 X2) := hP2
            have HD2 : Hid (d2 = d1 + X2.done) := hd2
            clear HN hX2 hP2 hd2
            go_wp2_with fail
            refine (rget3_on HRP1.out H.out d1 HD.out _ (by simp) HX2.out HI2.out HP2.out).mono ?_
            rintro e w2 ⟨b2, k2, rfl, HR2, HO2⟩
            clear r0 r1 r2 g0 g1 g2 p0 p1 p2 y0 y1 y2 hsz hs1
            obtain ⟨r0, r1, r2, g0, g1, g2⟩ := three_cells HR2.out.1
            obtain ⟨p0, p1, p2, y0, y1, y2⟩ := three_cells HR2.out.2.1
            have hsz : w.heap.size + 1 < w2.heap.size := by have := HR2.out.2.2.2.2.2; omega
            have hs1 : w.heap.size < w2.heap.size := by omega
            by_cases he : X2.err = 0
            · obtain rfl : P2 = ((d2 : Nat) : Int) := by rw [HP2.out, place_ok he, HD2.out]
              have HN : Hid (Y = rest3 X0.val X1.val X2.val (d2)) := by
                show _ = _
                rw [HNx.out, if_pos he]
              have HRP2 : Hid (RP w (w2.setCell ⟨w.heap.size + 1, 2, none⟩ (.slice b2 I2.length k2)) (s0) b1 k1 I1 b2 k2 I2) := HR2.out.set2 HO2.out
              rw [he]
              clear HNx he
              have HEQ : Hid (Ending.returned (.tuple #[.agg #[.string s0, .slice b1 I1.length k1, .slice b2 I2.length k2], .int .i64 ((d2 : Nat) : Int), .int .i64 0]) = Ending.returned (.tuple #[.agg #[.string (strOfNums Y.val.1), .slice b1 (Y.val.2.1.map keyIt).length k1, .slice b2 (Y.val.2.2.map entryIt).length k2], .int .i64 (place 0 Y), .int .i64 Y.err])) := by
                show _ = _
                rw [HN.out]; simp [rest3, place, strOfNums_nil, HS.out, HI1.out, HI2.out]
              go_wp2_with fail
              exact bodyPost_ret (v := .tuple #[.agg #[.string s0, .slice b1 I1.length k1, .slice b2 I2.length k2], .int .i64 ((d2 : Nat) : Int), .int .i64 0]) (by simp [results, Try.results9, go_sem, r0, r1, r2, hs1]) rfl
                ⟨b1, k1, b2, k2, HEQ.out, by rw [HN.out]; simp only [rest3]; rw [← HI1.out]; exact (HRP2.out.last _ _ _).1, by rw [HN.out]; simp only [rest3]; rw [← HI2.out]; exact (HRP2.out.last _ _ _).2.1, (HRP2.out.last _ _ _).2.2⟩
            · obtain rfl : P2 = 0 := by rw [HP2.out, place_bad he]
              have t : (X2.err == 0) = false := by simpa using he
              have HNN : Hid (Y = ⟨default, 0, X2.err⟩) := by
                show _ = _
                rw [HNx.out, if_neg he]
              have HEQ : Hid (Ending.returned (.tuple #[.agg #[.string ⟨#[]⟩, .slice none 0 0, .slice none 0 0], .int .i64 0, .int .i64 X2.err]) = Ending.returned (.tuple #[.agg #[.string (strOfNums Y.val.1), .slice none (Y.val.2.1.map keyIt).length 0, .slice none (Y.val.2.2.map entryIt).length 0], .int .i64 (place 0 Y), .int .i64 Y.err])) := by
                show _ = _
                have hp : place 0 (⟨default, 0, X2.err⟩ : Res Pre) = 0 := place_bad he
                rw [HNN.out, hp]; rfl
              have HRPe : Hid (Below w.heap.size w (w2.setCell ⟨w.heap.size + 1, 2, none⟩ (.slice b2 I2.length k2))) := (HR2.out.set2 HO2.out).2.2.2.2.1
              clear HNx he
              go_wp2_with fail
              exact bodyPost_ret (v := .tuple #[.agg #[.string ⟨#[]⟩, .slice none 0 0, .slice none 0 0], .int .i64 0, .int .i64 X2.err]) (by simp [results, Try.results9, go_sem, r0, r1, r2, hs1]) rfl
                ⟨none, 0, none, 0, HEQ.out, by rw [HNN.out]; exact view_nil _ _ _, by rw [HNN.out]; exact view_nil _ _ _, HRPe.out.trans (below_three _ _ _ _ _)⟩
        · obtain rfl : P1 = 0 := by rw [HP1.out, place_bad he]
          have t : (X1.err == 0) = false := by simpa using he
          have HNN : Hid (Y = ⟨default, 0, X1.err⟩) := by
            show _ = _
            rw [HNx.out, if_neg he]
          have HEQ : Hid (Ending.returned (.tuple #[.agg #[.string ⟨#[]⟩, .slice none 0 0, .slice none 0 0], .int .i64 0, .int .i64 X1.err]) = Ending.returned (.tuple #[.agg #[.string (strOfNums Y.val.1), .slice none (Y.val.2.1.map keyIt).length 0, .slice none (Y.val.2.2.map entryIt).length 0], .int .i64 (place 0 Y), .int .i64 Y.err])) := by
            show _ = _
            have hp : place 0 (⟨default, 0, X1.err⟩ : Res Pre) = 0 := place_bad he
            rw [HNN.out, hp]; rfl
          have HRPe : Hid (Below w.heap.size w (w1.setCell ⟨w.heap.size + 1, 1, none⟩ (.slice b1 I1.length k1))) := (HR1.out.set1 HO1.out).2.2.2.2.1
          clear HNx he
          go_wp2_with fail
          exact bodyPost_ret (v := .tuple #[.agg #[.string ⟨#[]⟩, .slice none 0 0, .slice none 0 0], .int .i64 0, .int .i64 X1.err]) (by simp [results, Try.results9, go_sem, r0, r1, r2, hs1]) rfl
            ⟨none, 0, none, 0, HEQ.out, by rw [HNN.out]; exact view_nil _ _ _, by rw [HNN.out]; exact view_nil _ _ _, HRPe.out.trans (below_three _ _ _ _ _)⟩
    · obtain rfl : P0 = 0 := by rw [HP0.out, place_bad he]
      have t : (X0.err == 0) = false := by simpa using he
      have HNN : Hid (Y = ⟨default, 0, X0.err⟩) := by
        show _ = _
        rw [HNx.out, if_neg he]
      have HEQ : Hid (Ending.returned (.tuple #[.agg #[.string ⟨#[]⟩, .slice none 0 0, .slice none 0 0], .int .i64 0, .int .i64 X0.err]) = Ending.returned (.tuple #[.agg #[.string (strOfNums Y.val.1), .slice none (Y.val.2.1.map keyIt).length 0, .slice none (Y.val.2.2.map entryIt).length 0], .int .i64 (place 0 Y), .int .i64 Y.err])) := by
        show _ = _
        have hp : place 0 (⟨default, 0, X0.err⟩ : Res Pre) = 0 := place_bad he
        rw [HNN.out, hp]; rfl
      have HRPe : Hid (Below w.heap.size w (w0.setCell ⟨w.heap.size + 1, 0, none⟩ (.string s0))) := (HR.out.set0 _).2.2.2.2.1
      clear HNx he
      go_wp2_with fail
      exact bodyPost_ret (v := .tuple #[.agg #[.string ⟨#[]⟩, .slice none 0 0, .slice none 0 0], .int .i64 0, .int .i64 X0.err]) (by simp [results, Try.results9, go_sem, r0, r1, r2, hs1]) rfl
        ⟨none, 0, none, 0, HEQ.out, by rw [HNN.out]; exact view_nil _ _ _, by rw [HNN.out]; exact view_nil _ _ _, HRPe.out.trans (below_three _ _ _ _ _)⟩

end Go.Proofs.Ytkcnmmlakimonaa
