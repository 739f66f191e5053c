/-
  The walk of the exact law of AskShelf: it returns true, and nothing that was there is written. No conditions. (Written by wip/tools/ch8_exact.py.)
-/
import Derived.Test.YtbnagmjhdnnheaaMg5
import Derived.Test.YtbnagmjhdnnheaaMg8
import Derived.Test.YtbnagmjhdnnheaaMg9
namespace Go.Proofs.Ytbnagmjhdnnheaa
open Go.RowKit

theorem wf_bounds8 {n : Int} (h : (Lit.int .i64 n).wf = true) : -9223372036854775808 ≤ n ∧ n ≤ 9223372036854775807 := by
  simp [Lit.wf, IntKind.min, IntKind.max, IntKind.signed, IntKind.bits] at h
  omega
theorem ask8_room {L : List En} {D : List ByteArray} {s : ByteArray} (k v n : Int) (hL : L.length ≤ 1048576) (hs : s.size ≤ 1048576) : (ask8 L D s k v n).length ≤ 1099511627776 := by
  unfold ask8
  split
  · refine Nat.le_trans (rowF_len _) (Nat.le_trans (askTo_len _ _ _ _ _ _) ?_)
    exact Nat.mul_le_mul (Nat.le_trans (mkL_len s k v) hs) hL
  · exact Nat.zero_le _
theorem specAsk8_w (S : List En) (D : List ByteArray) (s : ByteArray) (k v n : Int) (a : Option Addr) (nS cS : Nat) (b : Option Addr) (nD cD : Nat) (R : List Fd) (w : World) (hR : ask8 S D s k v n = R) (hnS : nS = S.length) (hnD : nD = D.length) (hS9 : nS ≤ 1048576) (hD9 : nD ≤ 1048576) (hScap : nS ≤ cS) (hSmax : cS ≤ maxLen)
    (hT : totalS D ≤ 1048576) (hs : s.size ≤ 1048576) (hk9 : k ≤ 9223372036854775807) (hv9 : v ≤ 9223372036854775807) (hatS : CellsAt w a (entsC S)) (hatD : CellsAt w b (strsC D)) :
    Calls Try.prog 45 #[.slice a nS cS, .slice b nD cD, .string s, .int .i64 k, .int .i64 v, .int .i64 n] w fun e w' => ∃ a' m c, e = .returned (.slice a' m c) ∧ One w w.heap.size w' 101 4 a' m c (fdsC R) := by
  refine (specAsk8_any S D s k v n a nS cS b nD cD R w hR hnS hnD hS9 hD9 hScap hSmax hT hs hk9 hv9 hatS hatD).mono ?_
  rintro e w2 ⟨g, m, c, h1, h2⟩
  exact ⟨_, m, c, h1, h2⟩

theorem walkFnExactAskShelf (a0 : Option Addr) (n0 c0 : Nat) (l0 : List (En)) (a1 : Option Addr) (n1 c1 : Nat) (l1 : List (ByteArray)) (a2 : ByteArray) (a3 : Int) (a4 : Int) (a5 : Int) (w : World) (wi0 : n0 = l0.length ∧ n0 ≤ c0 ∧ c0 ≤ maxLen ∧ (∀ x ∈ l0, (Lit.int .i64 x.1).wf = true ∧ (Lit.int .i64 x.2.1).wf = true ∧ (Lit.int .i64 x.2.2).wf = true) ∧ CellsAt w a0 (entsC l0)) (wi1 : n1 = l1.length ∧ n1 ≤ c1 ∧ c1 ≤ maxLen ∧ (∀ x ∈ l1, x.size ≤ maxLen) ∧ CellsAt w a1 (strsC l1)) (_wi2 : a2.size ≤ maxLen) (wi3 : (Lit.int .i64 a3).wf = true) (wi4 : (Lit.int .i64 a4).wf = true) (_wi5 : (Lit.int .i64 a5).wf = true) :
    Calls Try.prog 9 #[.slice a0 n0 c0, .slice a1 n1 c1, .string a2, .int .i64 a3, .int .i64 a4, .int .i64 a5] w fun e w' => e = .returned (.bool true) ∧ Below w.heap.size w w' := by
  obtain ⟨hn0, hc0, hx0, hok0, hat0⟩ := wi0
  have HN0 := Lib.hid hn0
  have hm0 : n0 ≤ maxLen := Nat.le_trans hc0 hx0
  clear hn0 hc0 hx0
  obtain ⟨hn1, hc1, hx1, hok1, hat1⟩ := wi1
  have HN1 := Lib.hid hn1
  have hm1 : n1 ≤ maxLen := Nat.le_trans hc1 hx1
  clear hn1 hc1 hx1
  obtain ⟨w0, HW⟩ : ∃ w0, Hid (w = w0) := ⟨_, Lib.hid rfl⟩
  have B0 : Below w0.heap.size w0 w0 := Below.refl _ _
  rw [HW.out] at hat0 hat1 ⊢
  clear HW
  by_cases hs2 : 1048576 < a2.size
  · have hb2 : (1048576 : Int) < (a2.size : Int) := by omega
    go_enter Try.func9, Try.ntmps9
    go_wp2
    go_ret
    exact ⟨rfl, B0⟩
  go_enter Try.func9, Try.ntmps9
  go_wp2_with fail
  refine (szEntryS_any _ _ _ 1048576 _ (by omega) hm0).mono ?_
  rintro e w1 ⟨⟨r0, rfl, hr0⟩, rfl⟩
  by_cases hz0 : r0 < 0
  · clear hr0
    go_wp2
    go_ret
    exact ⟨rfl, B0⟩
  have hq0 := hr0.resolve_left hz0
  clear hr0
  obtain ⟨r0, rfl⟩ : ∃ r : Nat, r0 = r := ⟨r0.toNat, by omega⟩
  have hp0 : n0 + r0 ≤ 1048576 := by omega
  clear hq0 hz0
  go_wp2_with fail
  refine (szStringS_any l1 _ _ _ r0 _ HN1.out (by omega) hm1 hok1 (hat1.below B0)).mono ?_
  rintro e w1 ⟨⟨r1, rfl, hr1⟩, rfl⟩
  by_cases hz1 : r1 < 0
  · clear hr1
    go_wp2
    go_ret
    exact ⟨rfl, B0⟩
  have hq1 := hr1.resolve_left hz1
  clear hr1
  obtain ⟨r1, rfl⟩ : ∃ r : Nat, r1 = r := ⟨r1.toNat, by omega⟩
  have hp1 : n1 + totalS l1 + r1 ≤ r0 := by omega
  clear hq1 hz1
  have h63 : ∀ x ∈ l0, x.2.2 ≤ 9223372036854775807 := fun x hx => (wf_bounds8 (hok0 x hx).2.2).2
  have hn9_0 : n0 ≤ 1048576 := by omega
  have hn9_1 : n1 ≤ 1048576 := by omega
  have hT : totalS l1 ≤ 1048576 := by omega
  have hs9 : a2.size ≤ 1048576 := by omega
  have hk9 := (wf_bounds8 wi3).2
  have hv9 := (wf_bounds8 wi4).2
  obtain ⟨R, hR⟩ : ∃ R, ask8 l0 l1 a2 a3 a4 a5 = R := ⟨_, rfl⟩
  have HR := Lib.hid hR
  have HM := Lib.hid (show R.length ≤ 1099511627776 by rw [← hR]; exact ask8_room a3 a4 a5 (by rw [← HN0.out]; exact hn9_0) hs9)
  clear hR
  go_wp2_with fail
  refine (toEntryS_any l0 _ _ _ _ HN0.out hn9_0 (hat0.below B0)).mono ?_
  rintro e w1 ⟨b1, rfl, o1⟩
  have e1 := o1.below
  have s1 := e1.size
  have B1 := B0.trans (e1.mono B0.size)
  clear e1 B0 
  have x0_1 := o1.row
  clear o1
  go_wp2_with fail
  refine (toStringS_any l1 _ _ _ _ HN1.out hn9_1 (hat1.below B1)).mono ?_
  rintro e w2 ⟨b2, rfl, o2⟩
  have e2 := o2.below
  have s2 := e2.size
  have B2 := B1.trans (e2.mono B1.size)
  have x0_2 := x0_1.later e2
  clear e2 B1 x0_1
  have x1_2 := o2.row
  clear o2
  go_wp2_with fail
  refine (specAsk8_w l0 l1 a2 a3 a4 a5 _ _ _ _ _ _ R _ HR.out HN0.out HN1.out hn9_0 hn9_1 (Nat.le_refl _) hm0 hT hs9 hk9 hv9 x0_2.at_ x1_2.at_).mono ?_
  rintro e w3 ⟨b3, n_u0, c3, rfl, o3⟩
  have e3 := o3.below
  have s3 := e3.size
  have B3 := B2.trans (e3.mono B2.size)
  have x0_3 := x0_2.later e3
  have x1_3 := x1_2.later e3
  clear e3 B2 x0_2 x1_2
  have u0_3 := o3.row
  clear o3
  have hu0 : n_u0 = (R).length := by have h := u0_3.own.1; rw [fdsC, flat_len fdC 4 lenFound] at h; omega
  have HU0 := Lib.hid hu0
  have hv0 : n_u0 ≤ 1099511627776 := by rw [hu0]; exact HM.out
  clear hu0
  clear x0_3
  clear x1_3
  go_wp2_with fail
  refine (toEntryS_any l0 _ _ _ _ HN0.out hn9_0 (hat0.below B3)).mono ?_
  rintro e w4 ⟨b4, rfl, o4⟩
  have e4 := o4.below
  have s4 := e4.size
  have B4 := B3.trans (e4.mono B3.size)
  have u0_4 := u0_3.later e4
  clear e4 B3 u0_3
  have y0_4 := o4.row
  clear o4
  go_wp2_with fail
  refine (toStringS_any l1 _ _ _ _ HN1.out hn9_1 (hat1.below B4)).mono ?_
  rintro e w5 ⟨b5, rfl, o5⟩
  have e5 := o5.below
  have s5 := e5.size
  have B5 := B4.trans (e5.mono B4.size)
  have u0_5 := u0_4.later e5
  have y0_5 := y0_4.later e5
  clear e5 B4 u0_4 y0_4
  have y1_5 := o5.row
  clear o5
  go_wp2_with fail
  refine (implAsk8_any l0 l1 a2 a3 a4 a5 _ _ _ _ _ _ R _ HR.out HN0.out HN1.out hn9_0 hn9_1 (Nat.le_refl _) h63 hT hs9 hv9 y0_5.at_ y1_5.at_).mono ?_
  rintro e w6 ⟨b6, n_g0, c6, rfl, o6⟩
  have e6 := o6.below
  have s6 := e6.size
  have B6 := B5.trans (e6.mono B5.size)
  have u0_6 := u0_5.later e6
  have y0_6 := y0_5.later e6
  have y1_6 := y1_5.later e6
  clear e6 B5 u0_5 y0_5 y1_5
  have g0_6 := o6.row
  clear o6
  obtain rfl : n_u0 = n_g0 := HU0.out.trans (show n_g0 = (R).length from by have h := g0_6.own.1; rw [fdsC, flat_len fdC 4 lenFound] at h; omega).symm
  go_wp2_with fail
  refine (eqFoundS_same _ _ _ _ _ (R) _ HU0.out (by omega) g0_6.at_ u0_6.at_).mono ?_
  rintro e w7 ⟨rfl, f7⟩
  have e7 := f7
  have s7 := e7.size
  have B7 := B6.trans (e7.mono B6.size)
  have u0_7 := u0_6.later e7
  have y0_7 := y0_6.later e7
  have y1_7 := y1_6.later e7
  have g0_7 := g0_6.later e7
  clear e7 B6 u0_6 y0_6 y1_6 g0_6 f7
  go_wp2_with fail
  refine (toEntryS_any l0 _ _ _ _ HN0.out hn9_0 (hat0.below B7)).mono ?_
  rintro e w8 ⟨b8, rfl, o8⟩
  have e8 := o8.below
  have s8 := e8.size
  have B8 := B7.trans (e8.mono B7.size)
  have u0_8 := u0_7.later e8
  have y0_8 := y0_7.later e8
  have y1_8 := y1_7.later e8
  have g0_8 := g0_7.later e8
  clear e8 B7 u0_7 y0_7 y1_7 g0_7
  have z0_8 := o8.row
  clear o8
  go_wp2_with fail
  refine (eqEntryS_same _ _ _ _ _ l0 _ HN0.out (by omega) y0_8.at_ z0_8.at_).mono ?_
  rintro e w9 ⟨rfl, f9⟩
  have e9 := f9
  have s9 := e9.size
  have B9 := B8.trans (e9.mono B8.size)
  have u0_9 := u0_8.later e9
  have y0_9 := y0_8.later e9
  have y1_9 := y1_8.later e9
  have g0_9 := g0_8.later e9
  have z0_9 := z0_8.later e9
  clear e9 B8 u0_8 y0_8 y1_8 g0_8 z0_8 f9
  clear z0_9
  go_wp2_with fail
  refine (toStringS_any l1 _ _ _ _ HN1.out hn9_1 (hat1.below B9)).mono ?_
  rintro e w10 ⟨b10, rfl, o10⟩
  have e10 := o10.below
  have s10 := e10.size
  have B10 := B9.trans (e10.mono B9.size)
  have u0_10 := u0_9.later e10
  have y0_10 := y0_9.later e10
  have y1_10 := y1_9.later e10
  have g0_10 := g0_9.later e10
  clear e10 B9 u0_9 y0_9 y1_9 g0_9
  have z1_10 := o10.row
  clear o10
  go_wp2_with fail
  refine (eqStringS_b _ _ _ _ _ l1 _ HN1.out (by omega) y1_10.at_ z1_10.at_).mono ?_
  rintro e w11 ⟨rfl, f11⟩
  have e11 := f11
  have s11 := e11.size
  have B11 := B10.trans (e11.mono B10.size)
  have u0_11 := u0_10.later e11
  have y0_11 := y0_10.later e11
  have y1_11 := y1_10.later e11
  have g0_11 := g0_10.later e11
  have z1_11 := z1_10.later e11
  clear e11 B10 u0_10 y0_10 y1_10 g0_10 z1_10 f11
  clear z1_11
  go_wp2_with fail
  refine (markEntryS_z _ _ _ _ l0 _ (1) _ y0_11.own (by omega) (by omega) (by omega) (by omega)).mono ?_
  rintro e w12 ⟨rfl, k12, g12⟩
  have s12 := g12.size
  have B12 := y0_11.below B11 g12 (by omega) B11.size
  have u0_12 := u0_11.kept y0_11 g12 (by omega)
  have y0_12 := y0_11.written k12 g12
  have y1_12 := y1_11.kept y0_11 g12 (by omega)
  have g0_12 := g0_11.kept y0_11 g12 (by omega)
  clear k12 g12 B11 u0_11 y0_11 y1_11 g0_11
  go_wp2_with fail
  refine (markStringS_z _ _ _ _ l1 _ (1 + n0 * 3) _ y1_12.own (by omega) (by omega) (by omega) (by omega)).mono ?_
  rintro e w13 ⟨rfl, k13, g13⟩
  have s13 := g13.size
  have B13 := y1_12.below B12 g13 (by omega) B12.size
  have u0_13 := u0_12.kept y1_12 g13 (by omega)
  have y0_13 := y0_12.kept y1_12 g13 (by omega)
  have y1_13 := y1_12.written k13 g13
  have g0_13 := g0_12.kept y1_12 g13 (by omega)
  clear k13 g13 B12 u0_12 y0_12 y1_12 g0_12
  have tk : ¬ ((1 + n0 * 3 + n1 * 1 : Nat) : Int) < 0 := by omega
  go_wp2_with fail
  refine (eqFoundS_same _ _ _ _ _ (R) _ HU0.out (by omega) g0_13.at_ u0_13.at_).mono ?_
  rintro e w14 ⟨rfl, f14⟩
  have e14 := f14
  have s14 := e14.size
  have B14 := B13.trans (e14.mono B13.size)
  have u0_14 := u0_13.later e14
  have y0_14 := y0_13.later e14
  have y1_14 := y1_13.later e14
  have g0_14 := g0_13.later e14
  clear e14 B13 u0_13 y0_13 y1_13 g0_13 f14
  clear y0_14
  clear y1_14
  go_wp2_with fail
  refine (markFoundS_z _ _ _ _ (R) _ (1) _ g0_14.own (by omega) (by omega) (by omega) (by omega)).mono ?_
  rintro e w15 ⟨rfl, k15, g15⟩
  have s15 := g15.size
  have B15 := g0_14.below B14 g15 (by omega) B14.size
  have u0_15 := u0_14.kept g0_14 g15 (by omega)
  have g0_15 := g0_14.written k15 g15
  clear k15 g15 B14 u0_14 g0_14
  go_wp2_with fail
  refine (heldFoundS_z _ _ _ _ (1) _ g0_15.at_ (by omega) (by omega) (by omega) (by omega)).mono ?_
  rintro e w16 ⟨rfl, f16⟩
  have e16 := f16
  have s16 := e16.size
  have B16 := B15.trans (e16.mono B15.size)
  have u0_16 := u0_15.later e16
  have g0_16 := g0_15.later e16
  clear e16 B15 u0_15 g0_15 f16
  have tq0_16 : ¬ ((1 + n_u0 * 4 : Nat) : Int) < 0 := by omega
  go_wp2_with fail
  refine (toEntryS_any l0 _ _ _ _ HN0.out hn9_0 (hat0.below B16)).mono ?_
  rintro e w17 ⟨b17, rfl, o17⟩
  have e17 := o17.below
  have s17 := e17.size
  have B17 := B16.trans (e17.mono B16.size)
  have u0_17 := u0_16.later e17
  have g0_17 := g0_16.later e17
  clear e17 B16 u0_16 g0_16
  have v0_17 := o17.row
  clear o17
  go_wp2_with fail
  refine (toStringS_any l1 _ _ _ _ HN1.out hn9_1 (hat1.below B17)).mono ?_
  rintro e w18 ⟨b18, rfl, o18⟩
  have e18 := o18.below
  have s18 := e18.size
  have B18 := B17.trans (e18.mono B17.size)
  have u0_18 := u0_17.later e18
  have g0_18 := g0_17.later e18
  have v0_18 := v0_17.later e18
  clear e18 B17 u0_17 g0_17 v0_17
  have v1_18 := o18.row
  clear o18
  go_wp2_with fail
  refine (implAsk8_any l0 l1 a2 a3 a4 a5 _ _ _ _ _ _ R _ HR.out HN0.out HN1.out hn9_0 hn9_1 (Nat.le_refl _) h63 hT hs9 hv9 v0_18.at_ v1_18.at_).mono ?_
  rintro e w19 ⟨b19, n_h0, c19, rfl, o19⟩
  have e19 := o19.below
  have s19 := e19.size
  have B19 := B18.trans (e19.mono B18.size)
  have u0_19 := u0_18.later e19
  have g0_19 := g0_18.later e19
  have v0_19 := v0_18.later e19
  have v1_19 := v1_18.later e19
  clear e19 B18 u0_18 g0_18 v0_18 v1_18
  have h0_19 := o19.row
  clear o19
  obtain rfl : n_u0 = n_h0 := HU0.out.trans (show n_h0 = (R).length from by have h := h0_19.own.1; rw [fdsC, flat_len fdC 4 lenFound] at h; omega).symm
  clear v0_19
  clear v1_19
  go_wp2_with fail
  refine (eqFoundS_same _ _ _ _ _ (R) _ HU0.out (by omega) h0_19.at_ u0_19.at_).mono ?_
  rintro e w20 ⟨rfl, f20⟩
  have e20 := f20
  have s20 := e20.size
  have B20 := B19.trans (e20.mono B19.size)
  have u0_20 := u0_19.later e20
  have g0_20 := g0_19.later e20
  have h0_20 := h0_19.later e20
  clear e20 B19 u0_19 g0_19 h0_19 f20
  go_wp2_with fail
  refine (heldFoundS_z _ _ _ _ (1) _ g0_20.at_ (by omega) (by omega) (by omega) (by omega)).mono ?_
  rintro e w21 ⟨rfl, f21⟩
  have e21 := f21
  have s21 := e21.size
  have B21 := B20.trans (e21.mono B20.size)
  have u0_21 := u0_20.later e21
  have g0_21 := g0_20.later e21
  have h0_21 := h0_20.later e21
  clear e21 B20 u0_20 g0_20 h0_20 f21
  have tq0_21 : ¬ ((1 + n_u0 * 4 : Nat) : Int) < 0 := by omega
  go_wp2
  go_ret
  exact ⟨rfl, B21⟩

end Go.Proofs.Ytbnagmjhdnnheaa
