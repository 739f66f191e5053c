/-
  The walk of the exact law of AskAll: it returns true, and nothing that was there is written. No conditions. (Written by wip/tools/ch8_exact.py.)
-/
import Derived.Test.YtbnagmjhdnnheaaFoundS
import Derived.Test.YtbnagmjhdnnheaaFoundI
import Derived.Test.YtbnagmjhdnnheaaHelpN
import Derived.Test.YtbnagmjhdnnheaaHelpFound
namespace Go.Proofs.Ytbnagmjhdnnheaa
open Go.RowKit

theorem wf_bounds8 {n : Int} (h : (Lit.int .i64 n).wf = true) : -9223372036854775808 ≤ n ∧ n ≤ 9223372036854775807 := by
  simp [Lit.wf, IntKind.min, IntKind.max, IntKind.signed, IntKind.bits] at h
  omega
theorem walkFnExactAskAll (a0 : Option Addr) (n0 c0 : Nat) (l0 : List (ByteArray)) (a1 : ByteArray) (a2 : Int) (w : World) (wi0 : n0 = l0.length ∧ n0 ≤ c0 ∧ c0 ≤ maxLen ∧ (∀ x ∈ l0, x.size ≤ maxLen) ∧ CellsAt w a0 (strsC l0)) (_wi1 : a1.size ≤ maxLen) (wi2 : (Lit.int .i64 a2).wf = true) :
    Calls Try.prog 10 #[.slice a0 n0 c0, .string a1, .int .i64 a2] w fun e w' => e = .returned (.bool true) ∧ Below w.heap.size w w' := by
  obtain ⟨hn0, hc0, hx0, hok0, hat0⟩ := wi0
  have HN0 := Lib.hid hn0
  have hm0 : n0 ≤ maxLen := Nat.le_trans hc0 hx0
  clear hn0 hc0 hx0
  obtain ⟨w0, HW⟩ : ∃ w0, Hid (w = w0) := ⟨_, Lib.hid rfl⟩
  have B0 : Below w0.heap.size w0 w0 := Below.refl _ _
  rw [HW.out] at hat0 ⊢
  clear HW
  by_cases hs1 : 1048576 < a1.size
  · have hb1 : (1048576 : Int) < (a1.size : Int) := by omega
    go_enter Try.func10, Try.ntmps10
    go_wp2
    go_ret
    exact ⟨rfl, B0⟩
  go_enter Try.func10, Try.ntmps10
  go_wp2_with fail
  refine (szStringS_any l0 _ _ _ 1048576 _ HN0.out (by omega) hm0 hok0 (hat0.below B0)).mono ?_
  rintro e w1 ⟨⟨r0, rfl, hr0⟩, rfl⟩
  by_cases hz0 : r0 < 0
  · clear hr0
    go_wp2
    go_ret
    exact ⟨rfl, B0⟩
  have hq0 := hr0.resolve_left hz0
  clear hr0
  obtain ⟨r0, rfl⟩ : ∃ r : Nat, r0 = r := ⟨r0.toNat, by omega⟩
  have hp0 : n0 + totalS l0 + r0 ≤ 1048576 := by omega
  clear hq0 hz0
  have hn9_0 : n0 ≤ 1048576 := by omega
  have hT : totalS l0 ≤ 1048576 := by omega
  have hs9 : a1.size ≤ 1048576 := by omega
  have hv9 := (wf_bounds8 wi2).2
  obtain ⟨R, hR⟩ : ∃ R, askAllL l0 a1 a2 = R := ⟨_, rfl⟩
  have HR := Lib.hid hR
  have HM := Lib.hid (show R.length ≤ 1099511627776 by rw [← hR]; exact askAll_room a2 hT hs9 (Nat.le_refl _))
  clear hR
  go_wp2_with fail
  refine (toStringS_any l0 _ _ _ _ HN0.out hn9_0 (hat0.below B0)).mono ?_
  rintro e w1 ⟨b1, rfl, o1⟩
  have e1 := o1.below
  have s1 := e1.size
  have B1 := B0.trans (e1.mono B0.size)
  clear e1 B0 
  have x0_1 := o1.row
  clear o1
  go_wp2_with fail
  refine (specAskAll_any l0 a1 a2 _ _ _ R _ HR.out HN0.out hn9_0 hT hs9 x0_1.at_).mono ?_
  rintro e w2 ⟨b2, n_u0, c2, rfl, o2⟩
  have e2 := o2.below
  have s2 := e2.size
  have B2 := B1.trans (e2.mono B1.size)
  have x0_2 := x0_1.later e2
  clear e2 B1 x0_1
  have u0_2 := o2.row
  clear o2
  have hu0 : n_u0 = (R).length := by have h := u0_2.own.1; rw [fdsC, flat_len fdC 4 lenFound] at h; omega
  have HU0 := Lib.hid hu0
  have hv0 : n_u0 ≤ 1099511627776 := by rw [hu0]; exact HM.out
  clear hu0
  clear x0_2
  go_wp2_with fail
  refine (toStringS_any l0 _ _ _ _ HN0.out hn9_0 (hat0.below B2)).mono ?_
  rintro e w3 ⟨b3, rfl, o3⟩
  have e3 := o3.below
  have s3 := e3.size
  have B3 := B2.trans (e3.mono B2.size)
  have u0_3 := u0_2.later e3
  clear e3 B2 u0_2
  have y0_3 := o3.row
  clear o3
  go_wp2_with fail
  refine (implAskAll_any l0 a1 a2 _ _ _ R _ HR.out HN0.out hn9_0 hT hs9 hv9 y0_3.at_).mono ?_
  rintro e w4 ⟨b4, n_g0, c4, rfl, o4⟩
  have e4 := o4.below
  have s4 := e4.size
  have B4 := B3.trans (e4.mono B3.size)
  have u0_4 := u0_3.later e4
  have y0_4 := y0_3.later e4
  clear e4 B3 u0_3 y0_3
  have g0_4 := o4.row
  clear o4
  obtain rfl : n_u0 = n_g0 := HU0.out.trans (show n_g0 = (R).length from by have h := g0_4.own.1; rw [fdsC, flat_len fdC 4 lenFound] at h; omega).symm
  go_wp2_with fail
  refine (eqFoundS_same _ _ _ _ _ (R) _ HU0.out (by omega) g0_4.at_ u0_4.at_).mono ?_
  rintro e w5 ⟨rfl, f5⟩
  have e5 := f5
  have s5 := e5.size
  have B5 := B4.trans (e5.mono B4.size)
  have u0_5 := u0_4.later e5
  have y0_5 := y0_4.later e5
  have g0_5 := g0_4.later e5
  clear e5 B4 u0_4 y0_4 g0_4 f5
  go_wp2_with fail
  refine (toStringS_any l0 _ _ _ _ HN0.out hn9_0 (hat0.below B5)).mono ?_
  rintro e w6 ⟨b6, rfl, o6⟩
  have e6 := o6.below
  have s6 := e6.size
  have B6 := B5.trans (e6.mono B5.size)
  have u0_6 := u0_5.later e6
  have y0_6 := y0_5.later e6
  have g0_6 := g0_5.later e6
  clear e6 B5 u0_5 y0_5 g0_5
  have z0_6 := o6.row
  clear o6
  go_wp2_with fail
  refine (eqStringS_b _ _ _ _ _ l0 _ HN0.out (by omega) y0_6.at_ z0_6.at_).mono ?_
  rintro e w7 ⟨rfl, f7⟩
  have e7 := f7
  have s7 := e7.size
  have B7 := B6.trans (e7.mono B6.size)
  have u0_7 := u0_6.later e7
  have y0_7 := y0_6.later e7
  have g0_7 := g0_6.later e7
  have z0_7 := z0_6.later e7
  clear e7 B6 u0_6 y0_6 g0_6 z0_6 f7
  clear z0_7
  go_wp2_with fail
  refine (markStringS_z _ _ _ _ l0 _ (1) _ y0_7.own (by omega) (by omega) (by omega) (by omega)).mono ?_
  rintro e w8 ⟨rfl, k8, g8⟩
  have s8 := g8.size
  have B8 := y0_7.below B7 g8 (by omega) B7.size
  have u0_8 := u0_7.kept y0_7 g8 (by omega)
  have y0_8 := y0_7.written k8 g8
  have g0_8 := g0_7.kept y0_7 g8 (by omega)
  clear k8 g8 B7 u0_7 y0_7 g0_7
  have tk : ¬ ((1 + n0 * 1 : Nat) : Int) < 0 := by omega
  go_wp2_with fail
  refine (eqFoundS_same _ _ _ _ _ (R) _ HU0.out (by omega) g0_8.at_ u0_8.at_).mono ?_
  rintro e w9 ⟨rfl, f9⟩
  have e9 := f9
  have s9 := e9.size
  have B9 := B8.trans (e9.mono B8.size)
  have u0_9 := u0_8.later e9
  have y0_9 := y0_8.later e9
  have g0_9 := g0_8.later e9
  clear e9 B8 u0_8 y0_8 g0_8 f9
  clear y0_9
  go_wp2_with fail
  refine (markFoundS_z _ _ _ _ (R) _ (1) _ g0_9.own (by omega) (by omega) (by omega) (by omega)).mono ?_
  rintro e w10 ⟨rfl, k10, g10⟩
  have s10 := g10.size
  have B10 := g0_9.below B9 g10 (by omega) B9.size
  have u0_10 := u0_9.kept g0_9 g10 (by omega)
  have g0_10 := g0_9.written k10 g10
  clear k10 g10 B9 u0_9 g0_9
  go_wp2_with fail
  refine (heldFoundS_z _ _ _ _ (1) _ g0_10.at_ (by omega) (by omega) (by omega) (by omega)).mono ?_
  rintro e w11 ⟨rfl, f11⟩
  have e11 := f11
  have s11 := e11.size
  have B11 := B10.trans (e11.mono B10.size)
  have u0_11 := u0_10.later e11
  have g0_11 := g0_10.later e11
  clear e11 B10 u0_10 g0_10 f11
  have tq0_11 : ¬ ((1 + n_u0 * 4 : Nat) : Int) < 0 := by omega
  go_wp2_with fail
  refine (toStringS_any l0 _ _ _ _ HN0.out hn9_0 (hat0.below B11)).mono ?_
  rintro e w12 ⟨b12, rfl, o12⟩
  have e12 := o12.below
  have s12 := e12.size
  have B12 := B11.trans (e12.mono B11.size)
  have u0_12 := u0_11.later e12
  have g0_12 := g0_11.later e12
  clear e12 B11 u0_11 g0_11
  have v0_12 := o12.row
  clear o12
  go_wp2_with fail
  refine (implAskAll_any l0 a1 a2 _ _ _ R _ HR.out HN0.out hn9_0 hT hs9 hv9 v0_12.at_).mono ?_
  rintro e w13 ⟨b13, n_h0, c13, rfl, o13⟩
  have e13 := o13.below
  have s13 := e13.size
  have B13 := B12.trans (e13.mono B12.size)
  have u0_13 := u0_12.later e13
  have g0_13 := g0_12.later e13
  have v0_13 := v0_12.later e13
  clear e13 B12 u0_12 g0_12 v0_12
  have h0_13 := o13.row
  clear o13
  obtain rfl : n_u0 = n_h0 := HU0.out.trans (show n_h0 = (R).length from by have h := h0_13.own.1; rw [fdsC, flat_len fdC 4 lenFound] at h; omega).symm
  clear v0_13
  go_wp2_with fail
  refine (eqFoundS_same _ _ _ _ _ (R) _ HU0.out (by omega) h0_13.at_ u0_13.at_).mono ?_
  rintro e w14 ⟨rfl, f14⟩
  have e14 := f14
  have s14 := e14.size
  have B14 := B13.trans (e14.mono B13.size)
  have u0_14 := u0_13.later e14
  have g0_14 := g0_13.later e14
  have h0_14 := h0_13.later e14
  clear e14 B13 u0_13 g0_13 h0_13 f14
  go_wp2_with fail
  refine (heldFoundS_z _ _ _ _ (1) _ g0_14.at_ (by omega) (by omega) (by omega) (by omega)).mono ?_
  rintro e w15 ⟨rfl, f15⟩
  have e15 := f15
  have s15 := e15.size
  have B15 := B14.trans (e15.mono B14.size)
  have u0_15 := u0_14.later e15
  have g0_15 := g0_14.later e15
  have h0_15 := h0_14.later e15
  clear e15 B14 u0_14 g0_14 h0_14 f15
  have tq0_15 : ¬ ((1 + n_u0 * 4 : Nat) : Int) < 0 := by omega
  go_wp2
  go_ret
  exact ⟨rfl, B15⟩

end Go.Proofs.Ytbnagmjhdnnheaa
