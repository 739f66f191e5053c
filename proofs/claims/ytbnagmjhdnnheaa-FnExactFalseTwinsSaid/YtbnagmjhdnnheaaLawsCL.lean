/-
  The walks of the exact laws of FoundBy and FalseTwins: each returns true, and nothing that was there is written. No conditions. (Written by wip/tools/ch8_exact.py.)
-/
import Derived.Test.YtbnagmjhdnnheaaFoundM
import Derived.Test.YtbnagmjhdnnheaaGrown
import Derived.Test.YtbnagmjhdnnheaaHelpN
import Derived.Test.YtbnagmjhdnnheaaHelpPiece
namespace Go.Proofs.Ytbnagmjhdnnheaa
open Go.RowKit

theorem wf_bounds8 {n : Int} (h : (Lit.int .i64 n).wf = true) : -9223372036854775808 ≤ n ∧ n ≤ 9223372036854775807 := by
  simp [Lit.wf, IntKind.min, IntKind.max, IntKind.signed, IntKind.bits] at h
  omega
theorem foundL_room {s t : ByteArray} (k v n : Int) (hs : s.size ≤ 1048576) (ht : t.size ≤ 1048576) : (foundL s t k v n).length ≤ 1099511627776 := by
  unfold foundL
  split
  · exact Nat.zero_le _
  · refine Nat.le_trans (rowE_len _) (Nat.le_trans (foundTo_len _ _ _ _ _) ?_)
    have h2 := twinsL_len (mkL s k v) (mkL t k v) 1048576 (Nat.le_trans (mkL_len t k v) ht)
    have h3 := Nat.le_trans (mkL_len s k v) hs
    omega
theorem specFound_w (s t : ByteArray) (k v n : Int) (R : List En) (w : World) (h : foundL s t k v n = R) (hs : s.size ≤ 1048576) (ht : t.size ≤ 1048576) (hv9 : v ≤ 9223372036854775807) :
    Calls Try.prog 32 #[.string s, .string t, .int .i64 k, .int .i64 v, .int .i64 n] w fun e w' => ∃ a m c, e = .returned (.slice a m c) ∧ One w w.heap.size w' 88 3 a m c (entsC R) := by
  refine (specFound_any s t k v n R w h hs ht hv9).mono ?_
  rintro e w2 ⟨g, m, c, h1, h2⟩
  exact ⟨_, m, c, h1, h2⟩
theorem walkFnExactFoundBy (a0 : ByteArray) (a1 : ByteArray) (a2 : Int) (a3 : Int) (a4 : Int) (w : World) (_wi0 : a0.size ≤ maxLen) (_wi1 : a1.size ≤ maxLen) (_wi2 : (Lit.int .i64 a2).wf = true) (wi3 : (Lit.int .i64 a3).wf = true) (_wi4 : (Lit.int .i64 a4).wf = true) :
    Calls Try.prog 6 #[.string a0, .string a1, .int .i64 a2, .int .i64 a3, .int .i64 a4] w fun e w' => e = .returned (.bool true) ∧ Below w.heap.size w w' := by
  obtain ⟨w0, HW⟩ : ∃ w0, Hid (w = w0) := ⟨_, Lib.hid rfl⟩
  have B0 : Below w0.heap.size w0 w0 := Below.refl _ _
  rw [HW.out]
  clear HW
  by_cases hs0 : 1048576 < a0.size
  · have hb0 : (1048576 : Int) < (a0.size : Int) := by omega
    go_enter Try.func6, Try.ntmps6
    go_wp2
    go_ret
    exact ⟨rfl, B0⟩
  by_cases hs1 : 1048576 < a1.size
  · have hb1 : (1048576 : Int) < (a1.size : Int) := by omega
    go_enter Try.func6, Try.ntmps6
    go_wp2
    go_ret
    exact ⟨rfl, B0⟩
  go_enter Try.func6, Try.ntmps6
  have hs9 : a0.size ≤ 1048576 := by omega
  have ht9 : a1.size ≤ 1048576 := by omega
  have hv9 := (wf_bounds8 wi3).2
  obtain ⟨R, hR⟩ : ∃ R, foundL a0 a1 a2 a3 a4 = R := ⟨_, rfl⟩
  have HR := Lib.hid hR
  have HM := Lib.hid (show R.length ≤ 1099511627776 by rw [← hR]; exact foundL_room a2 a3 a4 hs9 ht9)
  clear hR
  go_wp2_with fail
  refine (specFound_w a0 a1 a2 a3 a4 R _ HR.out hs9 ht9 hv9).mono ?_
  rintro e w1 ⟨b1, n_u0, c1, rfl, o1⟩
  have e1 := o1.below
  have s1 := e1.size
  have B1 := B0.trans (e1.mono B0.size)
  clear e1 B0 
  have u0_1 := o1.row
  clear o1
  have hu0 : n_u0 = (R).length := by have h := u0_1.own.1; rw [entsC, flat_len entC 3 lenPiece] at h; omega
  have HU0 := Lib.hid hu0
  have hv0 : n_u0 ≤ 1099511627776 := by rw [hu0]; exact HM.out
  clear hu0
  go_wp2_with fail
  refine (implFound_any a0 a1 a2 a3 a4 R _ HR.out hs9 ht9 hv9).mono ?_
  rintro e w2 ⟨b2, n_g0, c2, rfl, o2⟩
  have e2 := o2.below
  have s2 := e2.size
  have B2 := B1.trans (e2.mono B1.size)
  have u0_2 := u0_1.later e2
  clear e2 B1 u0_1
  have g0_2 := o2.row
  clear o2
  obtain rfl : n_u0 = n_g0 := HU0.out.trans (show n_g0 = (R).length from by have h := g0_2.own.1; rw [entsC, flat_len entC 3 lenPiece] at h; omega).symm
  go_wp2_with fail
  refine (eqPieceS_same _ _ _ _ _ (R) _ HU0.out (by omega) g0_2.at_ u0_2.at_).mono ?_
  rintro e w3 ⟨rfl, f3⟩
  have e3 := f3
  have s3 := e3.size
  have B3 := B2.trans (e3.mono B2.size)
  have u0_3 := u0_2.later e3
  have g0_3 := g0_2.later e3
  clear e3 B2 u0_2 g0_2 f3
  go_wp2_with fail
  refine (markPieceS_z _ _ _ _ (R) _ (1) _ g0_3.own (by omega) (by omega) (by omega) (by omega)).mono ?_
  rintro e w4 ⟨rfl, k4, g4⟩
  have s4 := g4.size
  have B4 := g0_3.below B3 g4 (by omega) B3.size
  have u0_4 := u0_3.kept g0_3 g4 (by omega)
  have g0_4 := g0_3.written k4 g4
  clear k4 g4 B3 u0_3 g0_3
  go_wp2_with fail
  refine (heldPieceS_z _ _ _ _ (1) _ g0_4.at_ (by omega) (by omega) (by omega) (by omega)).mono ?_
  rintro e w5 ⟨rfl, f5⟩
  have e5 := f5
  have s5 := e5.size
  have B5 := B4.trans (e5.mono B4.size)
  have u0_5 := u0_4.later e5
  have g0_5 := g0_4.later e5
  clear e5 B4 u0_4 g0_4 f5
  have tq0_5 : ¬ ((1 + n_u0 * 3 : Nat) : Int) < 0 := by omega
  go_wp2_with fail
  refine (implFound_any a0 a1 a2 a3 a4 R _ HR.out hs9 ht9 hv9).mono ?_
  rintro e w6 ⟨b6, n_h0, c6, rfl, o6⟩
  have e6 := o6.below
  have s6 := e6.size
  have B6 := B5.trans (e6.mono B5.size)
  have u0_6 := u0_5.later e6
  have g0_6 := g0_5.later e6
  clear e6 B5 u0_5 g0_5
  have h0_6 := o6.row
  clear o6
  obtain rfl : n_u0 = n_h0 := HU0.out.trans (show n_h0 = (R).length from by have h := h0_6.own.1; rw [entsC, flat_len entC 3 lenPiece] at h; omega).symm
  go_wp2_with fail
  refine (eqPieceS_same _ _ _ _ _ (R) _ HU0.out (by omega) h0_6.at_ u0_6.at_).mono ?_
  rintro e w7 ⟨rfl, f7⟩
  have e7 := f7
  have s7 := e7.size
  have B7 := B6.trans (e7.mono B6.size)
  have u0_7 := u0_6.later e7
  have g0_7 := g0_6.later e7
  have h0_7 := h0_6.later e7
  clear e7 B6 u0_6 g0_6 h0_6 f7
  go_wp2_with fail
  refine (heldPieceS_z _ _ _ _ (1) _ g0_7.at_ (by omega) (by omega) (by omega) (by omega)).mono ?_
  rintro e w8 ⟨rfl, f8⟩
  have e8 := f8
  have s8 := e8.size
  have B8 := B7.trans (e8.mono B7.size)
  have u0_8 := u0_7.later e8
  have g0_8 := g0_7.later e8
  have h0_8 := h0_7.later e8
  clear e8 B7 u0_7 g0_7 h0_7 f8
  have tq0_8 : ¬ ((1 + n_u0 * 3 : Nat) : Int) < 0 := by omega
  go_wp2
  go_ret
  exact ⟨rfl, B8⟩

theorem walkFnExactFalseTwins (a0 a1 : ByteArray) (a2 a3 : Int) (w : World) (_wi0 : a0.size ≤ maxLen) (_wi1 : a1.size ≤ maxLen) (_wi2 : (Lit.int .i64 a2).wf = true) (wi3 : (Lit.int .i64 a3).wf = true) :
    Calls Try.prog 7 #[.string a0, .string a1, .int .i64 a2, .int .i64 a3] w fun e w' => e = .returned (.bool true) ∧ Below w.heap.size w w' := by
  by_cases hs0 : 1048576 < a0.size
  · have hb0 : (1048576 : Int) < (a0.size : Int) := by omega
    go_enter Try.func7, Try.ntmps7
    go_wp2
    go_ret
    exact ⟨rfl, Below.refl _ _⟩
  by_cases hs1 : 1048576 < a1.size
  · have hb1 : (1048576 : Int) < (a1.size : Int) := by omega
    go_enter Try.func7, Try.ntmps7
    go_wp2
    go_ret
    exact ⟨rfl, Below.refl _ _⟩
  have c1 := fun w => specFalse_any a0 a1 a2 a3 w (by omega) (by omega) (wf_bounds8 wi3).2
  have c2 := fun w => implFalse_any a0 a1 a2 a3 w (by omega) (by omega) (wf_bounds8 wi3).2
  obtain ⟨R, hR⟩ : ∃ R, falseN a0 a1 a2 a3 = R := ⟨_, rfl⟩
  rw [hR] at c1 c2
  clear hR
  go_enter Try.func7, Try.ntmps7
  go_wp2_with fail
  refine (c1 _).mono ?_
  rintro e w1 ⟨rfl, b1⟩
  go_wp2_with fail
  refine (c2 _).mono ?_
  rintro e w2 ⟨rfl, b2⟩
  go_wp2
  go_ret
  exact ⟨rfl, b1.trans (b2.mono b1.size)⟩

end Go.Proofs.Ytbnagmjhdnnheaa
