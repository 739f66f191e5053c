/-
  The walks of chapter 6's exact laws: each returns true, and nothing that was there is written. No conditions. (Written by wip/tools/ch6_exact.py.)
-/
import Derived.Test.YtehdbiebekkgbaaSixI
import Derived.Test.YtehdbiebekkgbaaHelpN
import Derived.Test.YtehdbiebekkgbaaHelpEntry
namespace Go.Proofs.Ytehdbiebekkgbaa
open Go.RowKit

theorem wf_bounds6 {n : Int} (h : (Lit.int .i64 n).wf = true) : -9223372036854775808 ≤ n ∧ n ≤ 9223372036854775807 := by
  simp [Lit.wf, IntKind.min, IntKind.max, IntKind.signed, IntKind.bits] at h
  omega
theorem readT_len {s : ByteArray} {R : List En} {b : Bool} (h : readT wrap64 s = (R, b)) : R.length ≤ s.size := by
  rcases readT_is wrap_sums s with ⟨h1, _⟩ | ⟨l, h1, h2, h3, h4, h5⟩
  · rw [h1] at h
    simp only [Prod.mk.injEq] at h
    rw [← h.1]
    exact Nat.zero_le _
  · rw [h1] at h
    simp only [Prod.mk.injEq] at h
    have h6 := textB_size h2
    rw [h5, h.1] at h6
    omega

theorem walkFnExactPutNumber (a0 : Int) (w : World) (wi0 : (Lit.int .i64 a0).wf = true) :
    Calls Try.prog 3 #[.int .i64 a0] w fun e w' => e = .returned (.bool true) ∧ Below w.heap.size w w' := by
  have h9 := (wf_bounds6 wi0).2
  obtain ⟨R, hR⟩ : ∃ R, putB a0 = R := ⟨_, rfl⟩
  have c1 := fun w => specPut_any a0 w h9
  have c2 := fun w => implPut_any a0 w h9
  rw [hR] at c1 c2

  clear hR
  go_enter Try.func3, Try.ntmps3
  go_wp2_with fail
  refine (c1 _).mono ?_
  rintro e w1 ⟨rfl, b1⟩
  go_wp2_with fail
  refine (c2 _).mono ?_
  rintro e w2 ⟨rfl, b2⟩
  go_wp2
  go_ret
  exact ⟨rfl, b1.trans (b2.mono b1.size)⟩

theorem walkFnExactTakeNumber (a0 : ByteArray) (a1 : Int) (w : World) (_wi0 : a0.size ≤ maxLen) (wi1 : (Lit.int .i64 a1).wf = true) :
    Calls Try.prog 4 #[.string a0, .int .i64 a1] w fun e w' => e = .returned (.bool true) ∧ Below w.heap.size w w' := by
  have h9 := (wf_bounds6 wi1).2
  by_cases hs0 : 1048576 < a0.size
  · have hb0 : (1048576 : Int) < (a0.size : Int) := by omega
    go_enter Try.func4, Try.ntmps4
    go_wp2
    go_ret
    exact ⟨rfl, Below.refl _ _⟩
  obtain ⟨⟨x, y, b⟩, hR⟩ : ∃ R, takeT a0 a1 = R := ⟨_, rfl⟩
  have c1 := fun w => specTake_any a0 a1 x y b w hR (by omega)
  have c2 := fun w => implTake_any a0 a1 x y b w hR (by omega) h9
  have t1 : (x != x) = false := by simp
  have t2 : (y != y) = false := by simp
  have t3 : (b != b) = false := by simp
  clear hR
  go_enter Try.func4, Try.ntmps4
  go_wp2_with fail
  refine (c1 _).mono ?_
  rintro e w1 ⟨rfl, b1⟩
  go_wp2_with fail
  refine (c2 _).mono ?_
  rintro e w2 ⟨rfl, b2⟩
  go_wp2
  go_ret
  exact ⟨rfl, b1.trans (b2.mono b1.size)⟩

set_option maxHeartbeats 4000000 in
theorem walkFnExactShelfText (a0 : Option Addr) (n0 c0 : Nat) (l0 : List (En)) (w : World) (wi0 : n0 = l0.length ∧ n0 ≤ c0 ∧ c0 ≤ maxLen ∧ (∀ x ∈ l0, (Lit.int .i64 x.1).wf = true ∧ (Lit.int .i64 x.2.1).wf = true ∧ (Lit.int .i64 x.2.2).wf = true) ∧ CellsAt w a0 (entsC l0)) :
    Calls Try.prog 5 #[.slice a0 n0 c0] w fun e w' => e = .returned (.bool true) ∧ Below w.heap.size w w' := by
  obtain ⟨hn0, hc0, hx0, hok0, hat0⟩ := wi0
  have HN0 := Lib.hid hn0
  have hm0 : n0 ≤ maxLen := Nat.le_trans hc0 hx0
  have HF := Lib.hid (show ∀ x ∈ l0, fits x from fun x hx => by
    obtain ⟨h1, h2, h3⟩ := hok0 x hx
    have h1 := wf_bounds6 h1
    have h2 := wf_bounds6 h2
    have h3 := wf_bounds6 h3
    simp only [fits]
    omega)
  obtain ⟨R, hR⟩ : ∃ R, textB l0 = R := ⟨_, rfl⟩
  have HRr := Lib.hid hR
  have HAT := Lib.hid hat0

  clear hn0 hc0 hx0 hR hat0 hok0
  go_enter Try.func5, Try.ntmps5
  go_wp2_with fail
  refine (szEntryS_any _ _ _ 1048576 _ (by omega) hm0).mono ?_
  rintro e w1 ⟨⟨r0, rfl, hr0⟩, rfl⟩
  by_cases hz0 : r0 < 0
  · clear hr0
    go_wp2
    go_ret
    exact ⟨rfl, Below.refl _ _⟩
  have hn9 : n0 ≤ 1048576 := by have h := hr0.resolve_left hz0; omega
  clear hr0
  go_wp2_with fail
  refine (toEntryS_any l0 _ _ _ _ HN0.out hn9 HAT.out).mono ?_
  rintro e w2 ⟨b2, rfl, o2⟩
  have c1 := specText_any l0 _ _ n0 w2 HN0.out (by omega) HF.out o2.at_
  rw [HRr.out] at c1
  go_wp2_with fail
  refine c1.mono ?_
  rintro e w3 ⟨rfl, hb3⟩
  have B3 : Below w.heap.size w w3 := o2.below.trans (hb3.mono o2.below.size)
  clear o2 hb3 c1
  go_wp2_with fail
  refine (toEntryS_any l0 _ _ _ _ HN0.out hn9 (HAT.out.below B3)).mono ?_
  rintro e w4 ⟨b4, rfl, o4⟩
  have c2 := implText_any l0 _ _ n0 w4 HN0.out (by omega) HF.out o4.at_
  rw [HRr.out] at c2
  go_wp2_with fail
  refine c2.mono ?_
  rintro e w5 ⟨rfl, hb5⟩
  have B5 : Below w.heap.size w w5 := (B3.trans (o4.below.mono B3.size)).trans (hb5.mono (B3.trans (o4.below.mono B3.size)).size)
  have A5 := o4.at_.below hb5
  clear o4 hb5 B3 c2
  go_wp2_with fail
  refine (toEntryS_any l0 _ _ _ _ HN0.out hn9 (HAT.out.below B5)).mono ?_
  rintro e w6 ⟨b6, rfl, o6⟩
  have B6 : Below w.heap.size w w6 := B5.trans (o6.below.mono B5.size)
  go_wp2_with fail
  refine (eqEntryS_same _ _ _ _ _ l0 _ HN0.out (by omega) (A5.below o6.below) o6.at_).mono ?_
  rintro e w7 ⟨rfl, hb7⟩
  have B7 := B6.trans (hb7.mono B6.size)
  go_wp2
  go_ret
  exact ⟨rfl, B7⟩

set_option maxHeartbeats 8000000 in
theorem walkFnExactReadShelf (a0 : ByteArray) (w : World) (_wi0 : a0.size ≤ maxLen) :
    Calls Try.prog 6 #[.string a0] w fun e w' => e = .returned (.bool true) ∧ Below w.heap.size w w' := by
  obtain ⟨w0, HW⟩ : ∃ w0, Hid (w = w0) := ⟨_, Lib.hid rfl⟩
  have B0 : Below w0.heap.size w0 w0 := Below.refl _ _
  rw [HW.out]
  clear HW
  by_cases hs0 : 1048576 < a0.size
  · have hb0 : (1048576 : Int) < (a0.size : Int) := by omega
    go_enter Try.func6, Try.ntmps6
    go_wp2
    go_ret
    exact ⟨rfl, B0⟩
  go_enter Try.func6, Try.ntmps6
  have hs9 : a0.size ≤ 1048576 := by omega
  obtain ⟨⟨R, b⟩, hR⟩ : ∃ R, readT wrap64 a0 = R := ⟨_, rfl⟩
  have HR := Lib.hid hR
  have HM := Lib.hid (readT_len hR)
  have tb : (b != b) = false := by simp
  clear hR
  go_wp2_with fail
  refine (specRead_any a0 R b _ HR.out hs9).mono ?_
  rintro e w1 ⟨b1, n_u0, c1, rfl, o1⟩
  have e1 := o1.below
  have s1 := e1.size
  have B1 := B0.trans (e1.mono B0.size)
  clear e1 B0 
  have u0_1 := o1.row
  clear o1
  have hu0 : n_u0 = (R).length := by have h := u0_1.own.1; rw [entsC, flat_len entC 3 lenEntry] at h; omega
  have HU0 := Lib.hid hu0
  have hv0 : n_u0 ≤ 4194304 := by rw [hu0]; have := HM.out; omega
  clear hu0
  go_wp2_with fail
  refine (implRead_any a0 R b _ HR.out hs9).mono ?_
  rintro e w2 ⟨b2, n_g0, c2, rfl, o2⟩
  have e2 := o2.below
  have s2 := e2.size
  have B2 := B1.trans (e2.mono B1.size)
  have u0_2 := u0_1.later e2
  clear e2 B1 u0_1
  have g0_2 := o2.row
  clear o2
  obtain rfl : n_u0 = n_g0 := HU0.out.trans (show n_g0 = (R).length from by have h := g0_2.own.1; rw [entsC, flat_len entC 3 lenEntry] at h; omega).symm
  go_wp2_with fail
  refine (eqEntryS_same _ _ _ _ _ (R) _ HU0.out (by omega) g0_2.at_ u0_2.at_).mono ?_
  rintro e w3 ⟨rfl, f3⟩
  have e3 := f3
  have s3 := e3.size
  have B3 := B2.trans (e3.mono B2.size)
  have u0_3 := u0_2.later e3
  have g0_3 := g0_2.later e3
  clear e3 B2 u0_2 g0_2 f3
  go_wp2_with fail
  refine (markEntryS_z _ _ _ _ (R) _ (1) _ g0_3.own (by omega) (by omega) (by omega) (by omega)).mono ?_
  rintro e w4 ⟨rfl, k4, g4⟩
  have s4 := g4.size
  have B4 := g0_3.below B3 g4 (by omega) B3.size
  have u0_4 := u0_3.kept g0_3 g4 (by omega)
  have g0_4 := g0_3.written k4 g4
  clear k4 g4 B3 u0_3 g0_3
  go_wp2_with fail
  refine (heldEntryS_z _ _ _ _ (1) _ g0_4.at_ (by omega) (by omega) (by omega) (by omega)).mono ?_
  rintro e w5 ⟨rfl, f5⟩
  have e5 := f5
  have s5 := e5.size
  have B5 := B4.trans (e5.mono B4.size)
  have u0_5 := u0_4.later e5
  have g0_5 := g0_4.later e5
  clear e5 B4 u0_4 g0_4 f5
  have tq0_5 : ¬ ((1 + n_u0 * 3 : Nat) : Int) < 0 := by omega
  go_wp2_with fail
  refine (implRead_any a0 R b _ HR.out hs9).mono ?_
  rintro e w6 ⟨b6, n_h0, c6, rfl, o6⟩
  have e6 := o6.below
  have s6 := e6.size
  have B6 := B5.trans (e6.mono B5.size)
  have u0_6 := u0_5.later e6
  have g0_6 := g0_5.later e6
  clear e6 B5 u0_5 g0_5
  have h0_6 := o6.row
  clear o6
  obtain rfl : n_u0 = n_h0 := HU0.out.trans (show n_h0 = (R).length from by have h := h0_6.own.1; rw [entsC, flat_len entC 3 lenEntry] at h; omega).symm
  go_wp2_with fail
  refine (eqEntryS_same _ _ _ _ _ (R) _ HU0.out (by omega) h0_6.at_ u0_6.at_).mono ?_
  rintro e w7 ⟨rfl, f7⟩
  have e7 := f7
  have s7 := e7.size
  have B7 := B6.trans (e7.mono B6.size)
  have u0_7 := u0_6.later e7
  have g0_7 := g0_6.later e7
  have h0_7 := h0_6.later e7
  clear e7 B6 u0_6 g0_6 h0_6 f7
  go_wp2_with fail
  refine (heldEntryS_z _ _ _ _ (1) _ g0_7.at_ (by omega) (by omega) (by omega) (by omega)).mono ?_
  rintro e w8 ⟨rfl, f8⟩
  have e8 := f8
  have s8 := e8.size
  have B8 := B7.trans (e8.mono B7.size)
  have u0_8 := u0_7.later e8
  have g0_8 := g0_7.later e8
  have h0_8 := h0_7.later e8
  clear e8 B7 u0_7 g0_7 h0_7 f8
  have tq0_8 : ¬ ((1 + n_u0 * 3 : Nat) : Int) < 0 := by omega
  go_wp2
  go_ret
  exact ⟨rfl, B8⟩


end Go.Proofs.Ytehdbiebekkgbaa
