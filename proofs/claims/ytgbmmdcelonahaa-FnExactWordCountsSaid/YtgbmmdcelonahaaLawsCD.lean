/-
  The walk of the exact law of WordCounts: it returns true, and nothing that was there is written. No conditions. (Written by wip/tools/ch2_exact2.py.)
-/
import Derived.Test.YtgbmmdcelonahaaCountsS
import Derived.Test.YtgbmmdcelonahaaHelpN
namespace Go.Proofs.Ytgbmmdcelonahaa
open Go.RowKit

set_option maxHeartbeats 8000000 in
theorem walkFnExactWordCounts (a0 : Option Addr) (n0 c0 : Nat) (l0 : List (ByteArray)) (w : World) (wi0 : n0 = l0.length ∧ n0 ≤ c0 ∧ c0 ≤ maxLen ∧ (∀ x ∈ l0, x.size ≤ maxLen) ∧ CellsAt w a0 (strsC l0)) :
    Calls Try.prog 8 #[.slice a0 n0 c0] w fun e w' => e = .returned (.bool true) ∧ Below w.heap.size w w' := by
  obtain ⟨hn0, hc0, hx0, hok0, hat0⟩ := wi0
  have HN0 := Lib.hid hn0
  have hm0 : n0 ≤ maxLen := Nat.le_trans hc0 hx0
  clear hn0 hc0 hx0
  obtain ⟨w0, HW⟩ : ∃ w0, Hid (w = w0) := ⟨_, Lib.hid rfl⟩
  have B0 : Below w0.heap.size w0 w0 := Below.refl _ _
  rw [HW.out] at hat0 ⊢
  clear HW
  go_enter Try.func8, Try.ntmps8
  go_wp2_with fail
  refine (szStringS_any l0 _ _ _ 1048576 _ HN0.out (by omega) hm0 hok0 (hat0.below B0)).mono ?_
  rintro e w1 ⟨⟨r0, rfl, hr0⟩, rfl⟩
  by_cases hz0 : r0 < 0
  · clear hr0
    go_wp2
    go_ret
    exact ⟨rfl, B0⟩
  have hq0 := hr0.resolve_left hz0
  clear hr0
  have hn9_0 : n0 ≤ 1048576 := by omega
  go_wp2_with fail
  refine (toStringS_any l0 _ _ _ _ HN0.out hn9_0 (hat0.below B0)).mono ?_
  rintro e w1 ⟨b1, rfl, o1⟩
  have e1 := o1.below
  have s1 := e1.size
  have B1 := B0.trans (e1.mono B0.size)
  clear e1 B0 
  have x0_1 := o1.row
  clear o1
  go_wp2_with fail
  refine (specWordCounts_any l0 _ _ _ _ HN0.out hn9_0 x0_1.at_).mono ?_
  rintro e w2 ⟨b2, n_u0, c2, b2', n_u1, c2', rfl, o2⟩
  have e2 := o2.below
  have s2 := e2.size
  have B2 := B1.trans (e2.mono B1.size)
  have x0_2 := x0_1.later e2
  clear e2 B1 x0_1
  have u0_2 := Two.row1 o2
  have u1_2 := Two.row2 o2
  clear o2
  have hu0 : n_u0 = (cntW (countC l0)).length := strs_len u0_2.own
  have HU0 := Lib.hid hu0
  have hv0 : n_u0 ≤ 4194304 := by rw [hu0]; rw [cntW_len]; have h1 := countC_len l0; have h2 := HN0.out; omega
  clear hu0
  have hu1 : n_u1 = (cntN (countC l0)).length := ints_len u1_2.own
  have HU1 := Lib.hid hu1
  have hv1 : n_u1 ≤ 4194304 := by rw [hu1]; rw [cntN_len]; have h1 := countC_len l0; have h2 := HN0.out; omega
  clear hu1
  clear x0_2
  go_wp2_with fail
  refine (toStringS_any l0 _ _ _ _ HN0.out hn9_0 (hat0.below B2)).mono ?_
  rintro e w3 ⟨b3, rfl, o3⟩
  have e3 := o3.below
  have s3 := e3.size
  have B3 := B2.trans (e3.mono B2.size)
  have u0_3 := u0_2.later e3
  have u1_3 := u1_2.later e3
  clear e3 B2 u0_2 u1_2
  have y0_3 := o3.row
  clear o3
  go_wp2_with fail
  refine (implWordCounts_any l0 _ _ _ _ HN0.out (Nat.le_refl _) hn9_0 y0_3.at_).mono ?_
  rintro e w4 ⟨b4, n_g0, c4, b4', n_g1, c4', rfl, o4⟩
  have e4 := o4.below
  have s4 := e4.size
  have B4 := B3.trans (e4.mono B3.size)
  have u0_4 := u0_3.later e4
  have u1_4 := u1_3.later e4
  have y0_4 := y0_3.later e4
  clear e4 B3 u0_3 u1_3 y0_3
  have g0_4 := Two.row1 o4
  have g1_4 := Two.row2 o4
  clear o4
  obtain rfl : n_u0 = n_g0 := HU0.out.trans (show n_g0 = (cntW (countC l0)).length from strs_len g0_4.own).symm
  obtain rfl : n_u1 = n_g1 := HU1.out.trans (show n_g1 = (cntN (countC l0)).length from ints_len g1_4.own).symm
  go_wp2_with fail
  refine (eqStringS_b _ _ _ _ _ (cntW (countC l0)) _ HU0.out (by omega) g0_4.at_ u0_4.at_).mono ?_
  rintro e w5 ⟨rfl, f5⟩
  have e5 := f5
  have s5 := e5.size
  have B5 := B4.trans (e5.mono B4.size)
  have u0_5 := u0_4.later e5
  have u1_5 := u1_4.later e5
  have y0_5 := y0_4.later e5
  have g0_5 := g0_4.later e5
  have g1_5 := g1_4.later e5
  clear e5 B4 u0_4 u1_4 y0_4 g0_4 g1_4 f5
  go_wp2_with fail
  refine (eqIntS_b _ _ _ _ _ (cntN (countC l0)) _ HU1.out (by omega) g1_5.at_ u1_5.at_).mono ?_
  rintro e w6 ⟨rfl, f6⟩
  have e6 := f6
  have s6 := e6.size
  have B6 := B5.trans (e6.mono B5.size)
  have u0_6 := u0_5.later e6
  have u1_6 := u1_5.later e6
  have y0_6 := y0_5.later e6
  have g0_6 := g0_5.later e6
  have g1_6 := g1_5.later e6
  clear e6 B5 u0_5 u1_5 y0_5 g0_5 g1_5 f6
  go_wp2_with fail
  refine (toStringS_any l0 _ _ _ _ HN0.out hn9_0 (hat0.below B6)).mono ?_
  rintro e w7 ⟨b7, rfl, o7⟩
  have e7 := o7.below
  have s7 := e7.size
  have B7 := B6.trans (e7.mono B6.size)
  have u0_7 := u0_6.later e7
  have u1_7 := u1_6.later e7
  have y0_7 := y0_6.later e7
  have g0_7 := g0_6.later e7
  have g1_7 := g1_6.later e7
  clear e7 B6 u0_6 u1_6 y0_6 g0_6 g1_6
  have z0_7 := o7.row
  clear o7
  go_wp2_with fail
  refine (eqStringS_b _ _ _ _ _ l0 _ HN0.out (by omega) y0_7.at_ z0_7.at_).mono ?_
  rintro e w8 ⟨rfl, f8⟩
  have e8 := f8
  have s8 := e8.size
  have B8 := B7.trans (e8.mono B7.size)
  have u0_8 := u0_7.later e8
  have u1_8 := u1_7.later e8
  have y0_8 := y0_7.later e8
  have g0_8 := g0_7.later e8
  have g1_8 := g1_7.later e8
  have z0_8 := z0_7.later e8
  clear e8 B7 u0_7 u1_7 y0_7 g0_7 g1_7 z0_7 f8
  clear z0_8
  go_wp2_with fail
  refine (markStringS_z _ _ _ _ l0 _ (1) _ y0_8.own (by omega) (by omega) (by omega) (by omega)).mono ?_
  rintro e w9 ⟨rfl, k9, g9⟩
  have s9 := g9.size
  have B9 := y0_8.below B8 g9 (by omega) B8.size
  have u0_9 := u0_8.kept y0_8 g9 (by omega)
  have u1_9 := u1_8.kept y0_8 g9 (by omega)
  have y0_9 := y0_8.written k9 g9
  have g0_9 := g0_8.kept y0_8 g9 (by omega)
  have g1_9 := g1_8.kept y0_8 g9 (by omega)
  clear k9 g9 B8 u0_8 u1_8 y0_8 g0_8 g1_8
  have tk : ¬ ((1 + n0 * 1 : Nat) : Int) < 0 := by omega
  go_wp2_with fail
  refine (eqStringS_b _ _ _ _ _ (cntW (countC l0)) _ HU0.out (by omega) g0_9.at_ u0_9.at_).mono ?_
  rintro e w10 ⟨rfl, f10⟩
  have e10 := f10
  have s10 := e10.size
  have B10 := B9.trans (e10.mono B9.size)
  have u0_10 := u0_9.later e10
  have u1_10 := u1_9.later e10
  have y0_10 := y0_9.later e10
  have g0_10 := g0_9.later e10
  have g1_10 := g1_9.later e10
  clear e10 B9 u0_9 u1_9 y0_9 g0_9 g1_9 f10
  go_wp2_with fail
  refine (eqIntS_b _ _ _ _ _ (cntN (countC l0)) _ HU1.out (by omega) g1_10.at_ u1_10.at_).mono ?_
  rintro e w11 ⟨rfl, f11⟩
  have e11 := f11
  have s11 := e11.size
  have B11 := B10.trans (e11.mono B10.size)
  have u0_11 := u0_10.later e11
  have u1_11 := u1_10.later e11
  have y0_11 := y0_10.later e11
  have g0_11 := g0_10.later e11
  have g1_11 := g1_10.later e11
  clear e11 B10 u0_10 u1_10 y0_10 g0_10 g1_10 f11
  clear y0_11
  go_wp2_with fail
  refine (markStringS_z _ _ _ _ (cntW (countC l0)) _ (1) _ g0_11.own (by omega) (by omega) (by omega) (by omega)).mono ?_
  rintro e w12 ⟨rfl, k12, g12⟩
  have s12 := g12.size
  have B12 := g0_11.below B11 g12 (by omega) B11.size
  have u0_12 := u0_11.kept g0_11 g12 (by omega)
  have u1_12 := u1_11.kept g0_11 g12 (by omega)
  have g0_12 := g0_11.written k12 g12
  have g1_12 := g1_11.keptT g0_11 g12 (by decide)
  clear k12 g12 B11 u0_11 u1_11 g0_11 g1_11
  go_wp2_with fail
  refine (markIntS_z _ _ _ _ (cntN (countC l0)) _ (1 + n_u0 * 1) _ g1_12.own (by omega) (by omega) (by omega) (by omega)).mono ?_
  rintro e w13 ⟨rfl, k13, g13⟩
  have s13 := g13.size
  have B13 := g1_12.below B12 g13 (by omega) B12.size
  have u0_13 := u0_12.kept g1_12 g13 (by omega)
  have u1_13 := u1_12.kept g1_12 g13 (by omega)
  have g0_13 := g0_12.keptT g1_12 g13 (by decide)
  have g1_13 := g1_12.written k13 g13
  clear k13 g13 B12 u0_12 u1_12 g0_12 g1_12
  go_wp2_with fail
  refine (heldStringS_z _ _ _ _ (1) _ g0_13.at_ (by omega) (by omega) (by omega) (by omega)).mono ?_
  rintro e w14 ⟨rfl, f14⟩
  have e14 := f14
  have s14 := e14.size
  have B14 := B13.trans (e14.mono B13.size)
  have u0_14 := u0_13.later e14
  have u1_14 := u1_13.later e14
  have g0_14 := g0_13.later e14
  have g1_14 := g1_13.later e14
  clear e14 B13 u0_13 u1_13 g0_13 g1_13 f14
  have tq0_14 : ¬ ((1 + n_u0 * 1 : Nat) : Int) < 0 := by omega
  go_wp2_with fail
  refine (heldIntS_z _ _ _ _ (1 + n_u0 * 1) _ g1_14.at_ (by omega) (by omega) (by omega) (by omega)).mono ?_
  rintro e w15 ⟨rfl, f15⟩
  have e15 := f15
  have s15 := e15.size
  have B15 := B14.trans (e15.mono B14.size)
  have u0_15 := u0_14.later e15
  have u1_15 := u1_14.later e15
  have g0_15 := g0_14.later e15
  have g1_15 := g1_14.later e15
  clear e15 B14 u0_14 u1_14 g0_14 g1_14 f15
  have tq1_15 : ¬ ((1 + n_u0 * 1 + n_u1 * 1 : Nat) : Int) < 0 := by omega
  go_wp2_with fail
  refine (toStringS_any l0 _ _ _ _ HN0.out hn9_0 (hat0.below B15)).mono ?_
  rintro e w16 ⟨b16, rfl, o16⟩
  have e16 := o16.below
  have s16 := e16.size
  have B16 := B15.trans (e16.mono B15.size)
  have u0_16 := u0_15.later e16
  have u1_16 := u1_15.later e16
  have g0_16 := g0_15.later e16
  have g1_16 := g1_15.later e16
  clear e16 B15 u0_15 u1_15 g0_15 g1_15
  have v0_16 := o16.row
  clear o16
  go_wp2_with fail
  refine (implWordCounts_any l0 _ _ _ _ HN0.out (Nat.le_refl _) hn9_0 v0_16.at_).mono ?_
  rintro e w17 ⟨b17, n_h0, c17, b17', n_h1, c17', rfl, o17⟩
  have e17 := o17.below
  have s17 := e17.size
  have B17 := B16.trans (e17.mono B16.size)
  have u0_17 := u0_16.later e17
  have u1_17 := u1_16.later e17
  have g0_17 := g0_16.later e17
  have g1_17 := g1_16.later e17
  have v0_17 := v0_16.later e17
  clear e17 B16 u0_16 u1_16 g0_16 g1_16 v0_16
  have h0_17 := Two.row1 o17
  have h1_17 := Two.row2 o17
  clear o17
  obtain rfl : n_u0 = n_h0 := HU0.out.trans (show n_h0 = (cntW (countC l0)).length from strs_len h0_17.own).symm
  obtain rfl : n_u1 = n_h1 := HU1.out.trans (show n_h1 = (cntN (countC l0)).length from ints_len h1_17.own).symm
  clear v0_17
  go_wp2_with fail
  refine (eqStringS_b _ _ _ _ _ (cntW (countC l0)) _ HU0.out (by omega) h0_17.at_ u0_17.at_).mono ?_
  rintro e w18 ⟨rfl, f18⟩
  have e18 := f18
  have s18 := e18.size
  have B18 := B17.trans (e18.mono B17.size)
  have u0_18 := u0_17.later e18
  have u1_18 := u1_17.later e18
  have g0_18 := g0_17.later e18
  have g1_18 := g1_17.later e18
  have h0_18 := h0_17.later e18
  have h1_18 := h1_17.later e18
  clear e18 B17 u0_17 u1_17 g0_17 g1_17 h0_17 h1_17 f18
  go_wp2_with fail
  refine (eqIntS_b _ _ _ _ _ (cntN (countC l0)) _ HU1.out (by omega) h1_18.at_ u1_18.at_).mono ?_
  rintro e w19 ⟨rfl, f19⟩
  have e19 := f19
  have s19 := e19.size
  have B19 := B18.trans (e19.mono B18.size)
  have u0_19 := u0_18.later e19
  have u1_19 := u1_18.later e19
  have g0_19 := g0_18.later e19
  have g1_19 := g1_18.later e19
  have h0_19 := h0_18.later e19
  have h1_19 := h1_18.later e19
  clear e19 B18 u0_18 u1_18 g0_18 g1_18 h0_18 h1_18 f19
  go_wp2_with fail
  refine (heldStringS_z _ _ _ _ (1) _ g0_19.at_ (by omega) (by omega) (by omega) (by omega)).mono ?_
  rintro e w20 ⟨rfl, f20⟩
  have e20 := f20
  have s20 := e20.size
  have B20 := B19.trans (e20.mono B19.size)
  have u0_20 := u0_19.later e20
  have u1_20 := u1_19.later e20
  have g0_20 := g0_19.later e20
  have g1_20 := g1_19.later e20
  have h0_20 := h0_19.later e20
  have h1_20 := h1_19.later e20
  clear e20 B19 u0_19 u1_19 g0_19 g1_19 h0_19 h1_19 f20
  have tq0_20 : ¬ ((1 + n_u0 * 1 : Nat) : Int) < 0 := by omega
  go_wp2_with fail
  refine (heldIntS_z _ _ _ _ (1 + n_u0 * 1) _ g1_20.at_ (by omega) (by omega) (by omega) (by omega)).mono ?_
  rintro e w21 ⟨rfl, f21⟩
  have e21 := f21
  have s21 := e21.size
  have B21 := B20.trans (e21.mono B20.size)
  have u0_21 := u0_20.later e21
  have u1_21 := u1_20.later e21
  have g0_21 := g0_20.later e21
  have g1_21 := g1_20.later e21
  have h0_21 := h0_20.later e21
  have h1_21 := h1_20.later e21
  clear e21 B20 u0_20 u1_20 g0_20 g1_20 h0_20 h1_20 f21
  have tq1_21 : ¬ ((1 + n_u0 * 1 + n_u1 * 1 : Nat) : Int) < 0 := by omega
  go_wp2
  go_ret
  exact ⟨rfl, B21⟩

end Go.Proofs.Ytgbmmdcelonahaa
