/-
  The walks of chapter 3's exact laws: each returns true, and nothing that was there is written. No conditions. (Written by wip/tools/ch3_exact.py.)
-/
import Derived.Test.YtoeaaeoajnajdaaPrintF
import Derived.Test.YtoeaaeoajnajdaaPrintJ
import Derived.Test.YtoeaaeoajnajdaaHelpN
namespace Go.Proofs.Ytoeaaeoajnajdaa
open Go.RowKit

theorem wf_bounds {n : Int} (h : (Lit.int .i64 n).wf = true) : -9223372036854775808 ≤ n ∧ n ≤ 9223372036854775807 := by
  simp [Lit.wf, IntKind.min, IntKind.max, IntKind.signed, IntKind.bits] at h
  omega

theorem printsL_len (s : List UInt8) (k : Int) : (printsL s k).length ≤ s.length := by
  unfold printsL
  split
  · simp
  · rw [printsTo_len]; omega
theorem findL_len (s p : List UInt8) : (findL s p).length ≤ s.length := by
  unfold findL
  split
  · simp
  · have := findTo_len s p (s.length - p.length + 1); omega

set_option maxHeartbeats 1000000 in
theorem walkFnExactPrintOf (a0 : ByteArray) (w : World) (_w0 : a0.size ≤ maxLen) :
    Calls Try.prog 3 #[.string a0] w fun e w' => e = .returned (.bool true) ∧ Below w.heap.size w w' := by
  by_cases hs : 1048576 < a0.size
  · have h2 : (1048576 : Int) < (a0.size : Int) := by omega
    go_enter Try.func3, Try.ntmps3
    go_wp2
    go_ret
    exact ⟨rfl, Below.refl _ _⟩
  obtain ⟨x, hx⟩ : ∃ x, prN a0.data.toList = x := ⟨_, rfl⟩
  have HX := Lib.hid hx
  clear hx
  go_enter Try.func3, Try.ntmps3
  go_wp2_with fail
  refine (specPrintOf_is _ x _ (by omega) HX.out).mono ?_
  rintro e w1 ⟨rfl, rfl⟩
  go_wp2_with fail
  refine (implPrintOf_is _ x _ (by omega) HX.out).mono ?_
  rintro e w1 ⟨rfl, rfl⟩
  go_wp2
  go_ret
  exact ⟨rfl, Below.refl _ _⟩

set_option maxHeartbeats 1000000 in
theorem walkFnExactPrintPower (a0 : Int) (w : World) (wi0 : (Lit.int .i64 a0).wf = true) :
    Calls Try.prog 4 #[.int .i64 a0] w fun e w' => e = .returned (.bool true) ∧ Below w.heap.size w w' := by
  obtain ⟨wa, wb⟩ := wf_bounds wi0
  have c1 := fun w => specPrintPower_any a0 w wa wb
  have c2 := fun w => implPrintPower_any a0 w wa wb
  obtain ⟨x, hx⟩ : ∃ x, pwZ a0 = x := ⟨_, rfl⟩
  rw [hx] at c1 c2
  clear hx
  go_enter Try.func4, Try.ntmps4
  go_wp2_with fail
  refine (c1 _).mono ?_
  rintro e w1 ⟨rfl, rfl⟩
  go_wp2_with fail
  refine (c2 _).mono ?_
  rintro e w1 ⟨rfl, rfl⟩
  go_wp2
  go_ret
  exact ⟨rfl, Below.refl _ _⟩

set_option maxHeartbeats 1000000 in
theorem walkFnExactRollPrint (a0 a1 a2 a3 : Int) (w : World) (_w0 : (Lit.int .i64 a0).wf = true) (wi1 : (Lit.int .i64 a1).wf = true) (_w2 : (Lit.int .i64 a2).wf = true) (_w3 : (Lit.int .i64 a3).wf = true) :
    Calls Try.prog 6 #[.int .i64 a0, .int .i64 a1, .int .i64 a2, .int .i64 a3] w fun e w' => e = .returned (.bool true) ∧ Below w.heap.size w w' := by
  obtain ⟨wa, wb⟩ := wf_bounds wi1
  by_cases hb : a0 < 0 ∨ 1000003 ≤ a0 ∨ a1 < 1 ∨ a2 < 0 ∨ 255 < a2 ∨ a3 < 0 ∨ 255 < a3
  · have c1 := fun w => specRollPrint_bad a0 a1 a2 a3 w hb
    have c2 := fun w => implRollPrint_bad a0 a1 a2 a3 w hb
    clear hb
    go_enter Try.func6, Try.ntmps6
    go_wp2_with fail
    refine (c1 _).mono ?_
    rintro e w1 ⟨rfl, rfl⟩
    go_wp2_with fail
    refine (c2 _).mono ?_
    rintro e w1 ⟨rfl, rfl⟩
    go_wp2
    go_ret
    exact ⟨rfl, Below.refl _ _⟩
  · obtain ⟨n, rfl⟩ : ∃ n : Nat, a0 = n := ⟨a0.toNat, by omega⟩
    obtain ⟨k, rfl⟩ : ∃ k : Nat, a1 = k := ⟨a1.toNat, by omega⟩
    obtain ⟨g, rfl⟩ : ∃ g : Nat, a2 = g := ⟨a2.toNat, by omega⟩
    obtain ⟨c, rfl⟩ : ∃ c : Nat, a3 = c := ⟨a3.toNat, by omega⟩
    obtain ⟨z, hz⟩ : ∃ z, rollN n k g c = z := ⟨_, rfl⟩
    have c1 := fun w => specRollPrint_ok n k g c z w (by omega) (by omega) wb (by omega) (by omega) hz
    have c2 := fun w => implRollPrint_ok n k g c z w (by omega) (by omega) wb (by omega) (by omega) hz
    clear hz hb
    go_enter Try.func6, Try.ntmps6
    go_wp2_with fail
    refine (c1 _).mono ?_
    rintro e w1 ⟨rfl, rfl⟩
    go_wp2_with fail
    refine (c2 _).mono ?_
    rintro e w1 ⟨rfl, rfl⟩
    go_wp2
    go_ret
    exact ⟨rfl, Below.refl _ _⟩

set_option maxHeartbeats 1000000 in
theorem walkFnExactJoinPrint (a0 a1 a2 : Int) (w : World) (_w0 : (Lit.int .i64 a0).wf = true) (_w1 : (Lit.int .i64 a1).wf = true) (wi2 : (Lit.int .i64 a2).wf = true) :
    Calls Try.prog 7 #[.int .i64 a0, .int .i64 a1, .int .i64 a2] w fun e w' => e = .returned (.bool true) ∧ Below w.heap.size w w' := by
  obtain ⟨wa, wb⟩ := wf_bounds wi2
  by_cases hb : a0 < 0 ∨ 1000003 ≤ a0 ∨ a1 < 0 ∨ 1000003 ≤ a1 ∨ a2 < 0
  · have c1 := fun w => specJoinPrint_bad a0 a1 a2 w hb
    have c2 := fun w => implJoinPrint_bad a0 a1 a2 w hb
    clear hb
    go_enter Try.func7, Try.ntmps7
    go_wp2_with fail
    refine (c1 _).mono ?_
    rintro e w1 ⟨rfl, rfl⟩
    go_wp2_with fail
    refine (c2 _).mono ?_
    rintro e w1 ⟨rfl, rfl⟩
    go_wp2
    go_ret
    exact ⟨rfl, Below.refl _ _⟩
  · obtain ⟨a, rfl⟩ : ∃ a : Nat, a0 = a := ⟨a0.toNat, by omega⟩
    obtain ⟨b, rfl⟩ : ∃ b : Nat, a1 = b := ⟨a1.toNat, by omega⟩
    obtain ⟨k, rfl⟩ : ∃ k : Nat, a2 = k := ⟨a2.toNat, by omega⟩
    obtain ⟨z, hz⟩ : ∃ z, joinN a b k = z := ⟨_, rfl⟩
    have c1 := fun w => specJoinPrint_ok a b k z w (by omega) (by omega) wb hz
    have c2 := fun w => implJoinPrint_ok a b k z w (by omega) (by omega) wb hz
    clear hz hb
    go_enter Try.func7, Try.ntmps7
    go_wp2_with fail
    refine (c1 _).mono ?_
    rintro e w1 ⟨rfl, rfl⟩
    go_wp2_with fail
    refine (c2 _).mono ?_
    rintro e w1 ⟨rfl, rfl⟩
    go_wp2
    go_ret
    exact ⟨rfl, Below.refl _ _⟩

set_option maxHeartbeats 8000000 in
theorem walkFnExactPrintsOf (a0 : ByteArray) (a1 : Int) (w : World) (wi0 : a0.size ≤ maxLen) (wi1 : (Lit.int .i64 a1).wf = true) :
    Calls Try.prog 5 #[.string a0, .int .i64 a1] w fun e w' => e = .returned (.bool true) ∧ Below w.heap.size w w' := by
  obtain ⟨w0, HW⟩ : ∃ w0, Hid (w = w0) := ⟨_, Lib.hid rfl⟩
  have B0 : Below w0.heap.size w0 w0 := Below.refl _ _
  rw [HW.out]
  clear HW
  by_cases hs0 : 1048576 < a0.size
  · have hb0 : (1048576 : Int) < (a0.size : Int) := by omega
    go_enter Try.func5, Try.ntmps5
    go_wp2
    go_ret
    exact ⟨rfl, B0⟩
  go_enter Try.func5, Try.ntmps5
  have hs9 : a0.size ≤ 1048576 := by omega
  obtain ⟨L, hL⟩ : ∃ L, printsL a0.data.toList a1 = L := ⟨_, rfl⟩
  have HL := Lib.hid hL
  have HM := Lib.hid (show L.length ≤ a0.size by rw [← hL]; exact printsL_len _ _)
  clear hL
  go_wp2_with fail
  refine (specPrintsOf_is a0 a1 L _ hs9 HL.out).mono ?_
  rintro e w1 ⟨b1, n_u0, c1, rfl, o1⟩
  have e1 := o1.below
  have s1 := e1.size
  have B1 := B0.trans (e1.mono B0.size)
  clear e1 B0 
  have u0_1 := o1.row
  clear o1
  have hu0 : n_u0 = (L).length := ints_len u0_1.own
  have HU0 := Lib.hid hu0
  have hv0 : n_u0 ≤ 4194304 := by rw [hu0]; have := HM.out; omega
  clear hu0
  go_wp2_with fail
  refine (implPrintsOf_is a0 a1 L _ hs9 HL.out).mono ?_
  rintro e w2 ⟨b2, n_g0, c2, rfl, o2⟩
  have e2 := o2.below
  have s2 := e2.size
  have B2 := B1.trans (e2.mono B1.size)
  have u0_2 := u0_1.later e2
  clear e2 B1 u0_1
  have g0_2 := o2.row
  clear o2
  obtain rfl : n_u0 = n_g0 := HU0.out.trans (show n_g0 = (L).length from ints_len g0_2.own).symm
  go_wp2_with fail
  refine (eqIntS_b _ _ _ _ _ (L) _ HU0.out (by omega) g0_2.at_ u0_2.at_).mono ?_
  rintro e w3 ⟨rfl, f3⟩
  have e3 := f3
  have s3 := e3.size
  have B3 := B2.trans (e3.mono B2.size)
  have u0_3 := u0_2.later e3
  have g0_3 := g0_2.later e3
  clear e3 B2 u0_2 g0_2 f3
  go_wp2_with fail
  refine (markIntS_z _ _ _ _ (L) _ (1) _ g0_3.own (by omega) (by omega) (by omega) (by omega)).mono ?_
  rintro e w4 ⟨rfl, k4, g4⟩
  have s4 := g4.size
  have B4 := g0_3.below B3 g4 (by omega) B3.size
  have u0_4 := u0_3.kept g0_3 g4 (by omega)
  have g0_4 := g0_3.written k4 g4
  clear k4 g4 B3 u0_3 g0_3
  go_wp2_with fail
  refine (heldIntS_z _ _ _ _ (1) _ g0_4.at_ (by omega) (by omega) (by omega) (by omega)).mono ?_
  rintro e w5 ⟨rfl, f5⟩
  have e5 := f5
  have s5 := e5.size
  have B5 := B4.trans (e5.mono B4.size)
  have u0_5 := u0_4.later e5
  have g0_5 := g0_4.later e5
  clear e5 B4 u0_4 g0_4 f5
  have tq0_5 : ¬ ((1 + n_u0 * 1 : Nat) : Int) < 0 := by omega
  go_wp2_with fail
  refine (implPrintsOf_is a0 a1 L _ hs9 HL.out).mono ?_
  rintro e w6 ⟨b6, n_h0, c6, rfl, o6⟩
  have e6 := o6.below
  have s6 := e6.size
  have B6 := B5.trans (e6.mono B5.size)
  have u0_6 := u0_5.later e6
  have g0_6 := g0_5.later e6
  clear e6 B5 u0_5 g0_5
  have h0_6 := o6.row
  clear o6
  obtain rfl : n_u0 = n_h0 := HU0.out.trans (show n_h0 = (L).length from ints_len h0_6.own).symm
  go_wp2_with fail
  refine (eqIntS_b _ _ _ _ _ (L) _ HU0.out (by omega) h0_6.at_ u0_6.at_).mono ?_
  rintro e w7 ⟨rfl, f7⟩
  have e7 := f7
  have s7 := e7.size
  have B7 := B6.trans (e7.mono B6.size)
  have u0_7 := u0_6.later e7
  have g0_7 := g0_6.later e7
  have h0_7 := h0_6.later e7
  clear e7 B6 u0_6 g0_6 h0_6 f7
  go_wp2_with fail
  refine (heldIntS_z _ _ _ _ (1) _ g0_7.at_ (by omega) (by omega) (by omega) (by omega)).mono ?_
  rintro e w8 ⟨rfl, f8⟩
  have e8 := f8
  have s8 := e8.size
  have B8 := B7.trans (e8.mono B7.size)
  have u0_8 := u0_7.later e8
  have g0_8 := g0_7.later e8
  have h0_8 := h0_7.later e8
  clear e8 B7 u0_7 g0_7 h0_7 f8
  have tq0_8 : ¬ ((1 + n_u0 * 1 : Nat) : Int) < 0 := by omega
  go_wp2
  go_ret
  exact ⟨rfl, B8⟩

set_option maxHeartbeats 8000000 in
theorem walkFnExactFindPrint (a0 : ByteArray) (a1 : ByteArray) (w : World) (wi0 : a0.size ≤ maxLen) (wi1 : a1.size ≤ maxLen) :
    Calls Try.prog 8 #[.string a0, .string a1] w fun e w' => e = .returned (.bool true) ∧ Below w.heap.size w w' := by
  obtain ⟨w0, HW⟩ : ∃ w0, Hid (w = w0) := ⟨_, Lib.hid rfl⟩
  have B0 : Below w0.heap.size w0 w0 := Below.refl _ _
  rw [HW.out]
  clear HW
  by_cases hs0 : 1048576 < a0.size
  · have hb0 : (1048576 : Int) < (a0.size : Int) := by omega
    go_enter Try.func8, Try.ntmps8
    go_wp2
    go_ret
    exact ⟨rfl, B0⟩
  by_cases hs1 : 1048576 < a1.size
  · have hb1 : (1048576 : Int) < (a1.size : Int) := by omega
    go_enter Try.func8, Try.ntmps8
    go_wp2
    go_ret
    exact ⟨rfl, B0⟩
  go_enter Try.func8, Try.ntmps8
  have hs9 : a0.size ≤ 1048576 := by omega
  have hp9 : a1.size ≤ 1048576 := by omega
  have HM := Lib.hid (show (findL a0.data.toList a1.data.toList).length ≤ a0.size from findL_len _ _)
  go_wp2_with fail
  refine (specFindPrint_any a0 a1 _ hs9 hp9).mono ?_
  rintro e w1 ⟨b1, n_u0, c1, rfl, o1⟩
  have e1 := o1.below
  have s1 := e1.size
  have B1 := B0.trans (e1.mono B0.size)
  clear e1 B0 
  have u0_1 := o1.row
  clear o1
  have hu0 : n_u0 = (findL a0.data.toList a1.data.toList).length := ints_len u0_1.own
  have HU0 := Lib.hid hu0
  have hv0 : n_u0 ≤ 4194304 := by rw [hu0]; have := HM.out; omega
  clear hu0
  go_wp2_with fail
  refine (implFindPrint_any a0 a1 _ hs9 hp9).mono ?_
  rintro e w2 ⟨b2, n_g0, c2, rfl, o2⟩
  have e2 := o2.below
  have s2 := e2.size
  have B2 := B1.trans (e2.mono B1.size)
  have u0_2 := u0_1.later e2
  clear e2 B1 u0_1
  have g0_2 := o2.row
  clear o2
  obtain rfl : n_u0 = n_g0 := HU0.out.trans (show n_g0 = (findL a0.data.toList a1.data.toList).length from ints_len g0_2.own).symm
  go_wp2_with fail
  refine (eqIntS_b _ _ _ _ _ (findL a0.data.toList a1.data.toList) _ HU0.out (by omega) g0_2.at_ u0_2.at_).mono ?_
  rintro e w3 ⟨rfl, f3⟩
  have e3 := f3
  have s3 := e3.size
  have B3 := B2.trans (e3.mono B2.size)
  have u0_3 := u0_2.later e3
  have g0_3 := g0_2.later e3
  clear e3 B2 u0_2 g0_2 f3
  go_wp2_with fail
  refine (markIntS_z _ _ _ _ (findL a0.data.toList a1.data.toList) _ (1) _ g0_3.own (by omega) (by omega) (by omega) (by omega)).mono ?_
  rintro e w4 ⟨rfl, k4, g4⟩
  have s4 := g4.size
  have B4 := g0_3.below B3 g4 (by omega) B3.size
  have u0_4 := u0_3.kept g0_3 g4 (by omega)
  have g0_4 := g0_3.written k4 g4
  clear k4 g4 B3 u0_3 g0_3
  go_wp2_with fail
  refine (heldIntS_z _ _ _ _ (1) _ g0_4.at_ (by omega) (by omega) (by omega) (by omega)).mono ?_
  rintro e w5 ⟨rfl, f5⟩
  have e5 := f5
  have s5 := e5.size
  have B5 := B4.trans (e5.mono B4.size)
  have u0_5 := u0_4.later e5
  have g0_5 := g0_4.later e5
  clear e5 B4 u0_4 g0_4 f5
  have tq0_5 : ¬ ((1 + n_u0 * 1 : Nat) : Int) < 0 := by omega
  go_wp2_with fail
  refine (implFindPrint_any a0 a1 _ hs9 hp9).mono ?_
  rintro e w6 ⟨b6, n_h0, c6, rfl, o6⟩
  have e6 := o6.below
  have s6 := e6.size
  have B6 := B5.trans (e6.mono B5.size)
  have u0_6 := u0_5.later e6
  have g0_6 := g0_5.later e6
  clear e6 B5 u0_5 g0_5
  have h0_6 := o6.row
  clear o6
  obtain rfl : n_u0 = n_h0 := HU0.out.trans (show n_h0 = (findL a0.data.toList a1.data.toList).length from ints_len h0_6.own).symm
  go_wp2_with fail
  refine (eqIntS_b _ _ _ _ _ (findL a0.data.toList a1.data.toList) _ HU0.out (by omega) h0_6.at_ u0_6.at_).mono ?_
  rintro e w7 ⟨rfl, f7⟩
  have e7 := f7
  have s7 := e7.size
  have B7 := B6.trans (e7.mono B6.size)
  have u0_7 := u0_6.later e7
  have g0_7 := g0_6.later e7
  have h0_7 := h0_6.later e7
  clear e7 B6 u0_6 g0_6 h0_6 f7
  go_wp2_with fail
  refine (heldIntS_z _ _ _ _ (1) _ g0_7.at_ (by omega) (by omega) (by omega) (by omega)).mono ?_
  rintro e w8 ⟨rfl, f8⟩
  have e8 := f8
  have s8 := e8.size
  have B8 := B7.trans (e8.mono B7.size)
  have u0_8 := u0_7.later e8
  have g0_8 := g0_7.later e8
  have h0_8 := h0_7.later e8
  clear e8 B7 u0_7 g0_7 h0_7 f8
  have tq0_8 : ¬ ((1 + n_u0 * 1 : Nat) : Int) < 0 := by omega
  go_wp2
  go_ret
  exact ⟨rfl, B8⟩

end Go.Proofs.Ytoeaaeoajnajdaa
