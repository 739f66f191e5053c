/-
  The walks of chapter 9's exact laws HasPiece, CountPieces, HowOften and LongestEnds: each returns true, and nothing that was there is written. No conditions. (Written by wip/tools/ch9_exact.py.)
-/
import Derived.Test.YtnjiooljoekhmaaEndsI
import Derived.Test.YtnjiooljoekhmaaHowI
import Derived.Test.YtnjiooljoekhmaaHelpN
namespace Go.Proofs.Ytnjiooljoekhmaa
open Go.RowKit

theorem some_bool (P : Prop) : ∃ r : Bool, r = true ↔ P := by
  by_cases h : P
  · exact ⟨true, fun _ => h, fun _ => rfl⟩
  · exact ⟨false, (fun e => absurd e (by decide)), (fun e => absurd e h)⟩

set_option maxHeartbeats 4000000 in
theorem walkFnExactHasPiece (a0 : ByteArray) (a1 : ByteArray) (w : World) (_wi0 : a0.size ≤ maxLen) (_wi1 : a1.size ≤ maxLen) :
    Calls Try.prog 5 #[.string a0, .string a1] w fun e w' => e = .returned (.bool true) ∧ Below w.heap.size w w' := by
  by_cases hs0 : 1048576 < a0.size
  · have hb0 : (1048576 : Int) < (a0.size : Int) := by omega
    go_enter Try.func5, Try.ntmps5
    go_wp2
    go_ret
    exact ⟨rfl, Below.refl _ _⟩
  by_cases hs1 : 1048576 < a1.size
  · have hb1 : (1048576 : Int) < (a1.size : Int) := by omega
    go_enter Try.func5, Try.ntmps5
    go_wp2
    go_ret
    exact ⟨rfl, Below.refl _ _⟩
  obtain ⟨r, hr⟩ := some_bool (pcIn a0.data.toList a1.data.toList)
  have c1 := fun w => specHas_any a0 a1 r w hr (by omega) (by omega)
  have c2 := fun w => implHas_any a0 a1 r w hr (by omega) (by omega)
  have t1 : (r == r) = true := beq_self_eq_true _
  have t2 : (r != r) = false := by rw [bne, t1]; rfl
  clear hr
  go_enter Try.func5, Try.ntmps5
  go_wp2_with fail
  refine (c1 _).mono ?_
  rintro e w1 ⟨rfl, b1⟩
  go_wp2_with fail
  refine (c2 _).mono ?_
  rintro e w2 ⟨rfl, b2⟩
  have B2 := b1.trans (b2.mono b1.size)
  clear c1 c2 b1 b2
  go_wp2
  go_ret
  exact ⟨rfl, B2⟩

set_option maxHeartbeats 4000000 in
theorem walkFnExactCountPieces (a0 : ByteArray) (w : World) (_wi0 : a0.size ≤ maxLen) :
    Calls Try.prog 6 #[.string a0] w fun e w' => e = .returned (.bool true) ∧ Below w.heap.size w w' := by
  by_cases hs0 : 1048576 < a0.size
  · have hb0 : (1048576 : Int) < (a0.size : Int) := by omega
    go_enter Try.func6, Try.ntmps6
    go_wp2
    go_ret
    exact ⟨rfl, Below.refl _ _⟩
  have c1 := fun w => specCnt_any a0 w (by omega)
  have c2 := fun w => implCnt_any a0 w (by omega)
  obtain ⟨r, hr⟩ : ∃ r, cntL (machL a0.data.toList) = r := ⟨_, rfl⟩
  rw [hr] at c1 c2
  have t1 : (r == r) = true := beq_self_eq_true _
  have t2 : (r != r) = false := by rw [bne, t1]; rfl
  clear hr
  go_enter Try.func6, Try.ntmps6
  go_wp2_with fail
  refine (c1 _).mono ?_
  rintro e w1 ⟨rfl, b1⟩
  go_wp2_with fail
  refine (c2 _).mono ?_
  rintro e w2 ⟨rfl, b2⟩
  have B2 := b1.trans (b2.mono b1.size)
  clear c1 c2 b1 b2
  go_wp2
  go_ret
  exact ⟨rfl, B2⟩

set_option maxHeartbeats 4000000 in
theorem walkFnExactHowOften (a0 : ByteArray) (a1 : ByteArray) (w : World) (_wi0 : a0.size ≤ maxLen) (_wi1 : a1.size ≤ maxLen) :
    Calls Try.prog 8 #[.string a0, .string a1] w fun e w' => e = .returned (.bool true) ∧ Below w.heap.size w w' := by
  by_cases hs0 : 1048576 < a0.size
  · have hb0 : (1048576 : Int) < (a0.size : Int) := by omega
    go_enter Try.func8, Try.ntmps8
    go_wp2
    go_ret
    exact ⟨rfl, Below.refl _ _⟩
  by_cases hs1 : 1048576 < a1.size
  · have hb1 : (1048576 : Int) < (a1.size : Int) := by omega
    go_enter Try.func8, Try.ntmps8
    go_wp2
    go_ret
    exact ⟨rfl, Below.refl _ _⟩
  have c1 := fun w => specHow_any a0 a1 w (by omega) (by omega)
  have c2 := fun w => implHow_any a0 a1 w (by omega) (by omega)
  obtain ⟨r, hr⟩ : ∃ r : Int, (howN a0.data.toList a1.data.toList : Int) = r := ⟨_, rfl⟩
  rw [hr] at c1 c2
  have t1 : (r == r) = true := beq_self_eq_true _
  have t2 : (r != r) = false := by rw [bne, t1]; rfl
  clear hr
  go_enter Try.func8, Try.ntmps8
  go_wp2_with fail
  refine (c1 _).mono ?_
  rintro e w1 ⟨rfl, b1⟩
  go_wp2_with fail
  refine (c2 _).mono ?_
  rintro e w2 ⟨rfl, b2⟩
  have B2 := b1.trans (b2.mono b1.size)
  clear c1 c2 b1 b2
  go_wp2
  go_ret
  exact ⟨rfl, B2⟩

theorem specLng_n (s t : ByteArray) (w : World) (L : List Int) (hL : lsL s.data.toList t.data.toList = L) (hs : s.size ≤ 1048576) (ht : t.size ≤ 1048576) :
    Calls Try.prog 22 #[.string s, .string t] w fun e w' => ∃ a' n' c', e = .returned (.slice a' n' c') ∧ One w w.heap.size w' 3 1 a' n' c' (intCells L) :=
  (specLng_any s t w hs ht).mono (fun _ _ h => by
    obtain ⟨a, c, h1, h2⟩ := h
    rw [hL] at h2
    exact ⟨a, _, c, h1, h2⟩)

theorem implLng_n (s t : ByteArray) (w : World) (L : List Int) (hL : lsL s.data.toList t.data.toList = L) (hs : s.size ≤ 1048576) (ht : t.size ≤ 1048576) :
    Calls Try.prog 23 #[.string s, .string t] w fun e w' => ∃ a' n' c', e = .returned (.slice a' n' c') ∧ One w w.heap.size w' 3 1 a' n' c' (intCells L) :=
  (implLng_any s t w hs ht).mono (fun _ _ h => by
    obtain ⟨a, c, h1, h2⟩ := h
    rw [hL] at h2
    exact ⟨a, _, c, h1, h2⟩)

set_option maxHeartbeats 8000000 in
theorem walkFnExactLongestEnds (a0 : ByteArray) (a1 : ByteArray) (w : World) (_wi0 : a0.size ≤ maxLen) (_wi1 : a1.size ≤ maxLen) :
    Calls Try.prog 7 #[.string a0, .string a1] w fun e w' => e = .returned (.bool true) ∧ Below w.heap.size w w' := by
  obtain ⟨w0, HW⟩ : ∃ w0, Hid (w = w0) := ⟨_, Lib.hid rfl⟩
  have B0 : Below w0.heap.size w0 w0 := Below.refl _ _
  rw [HW.out]
  clear HW
  by_cases hs0 : 1048576 < a0.size
  · have hb0 : (1048576 : Int) < (a0.size : Int) := by omega
    go_enter Try.func7, Try.ntmps7
    go_wp2
    go_ret
    exact ⟨rfl, B0⟩
  by_cases hs1 : 1048576 < a1.size
  · have hb1 : (1048576 : Int) < (a1.size : Int) := by omega
    go_enter Try.func7, Try.ntmps7
    go_wp2
    go_ret
    exact ⟨rfl, B0⟩
  go_enter Try.func7, Try.ntmps7
  have hs9 : a0.size ≤ 1048576 := by omega
  have ht9 : a1.size ≤ 1048576 := by omega
  obtain ⟨L, hL⟩ : ∃ L, lsL a0.data.toList a1.data.toList = L := ⟨_, rfl⟩
  have HL := Lib.hid hL
  have HM := Lib.hid (show L.length ≤ 1048576 by rw [← hL, lsL_len]; exact ht9)
  clear hL
  go_wp2_with fail
  refine (specLng_n a0 a1 _ L HL.out hs9 ht9).mono ?_
  rintro e w1 ⟨b1, n_u0, c1, rfl, o1⟩
  have e1 := o1.below
  have s1 := e1.size
  have B1 := B0.trans (e1.mono B0.size)
  clear e1 B0 
  have u0_1 := o1.row
  clear o1
  have hu0 : n_u0 = (L).length := ints_len u0_1.own
  have HU0 := Lib.hid hu0
  have hv0 : n_u0 ≤ 4194304 := by rw [hu0]; have := HM.out; omega
  clear hu0
  go_wp2_with fail
  refine (implLng_n a0 a1 _ L HL.out hs9 ht9).mono ?_
  rintro e w2 ⟨b2, n_g0, c2, rfl, o2⟩
  have e2 := o2.below
  have s2 := e2.size
  have B2 := B1.trans (e2.mono B1.size)
  have u0_2 := u0_1.later e2
  clear e2 B1 u0_1
  have g0_2 := o2.row
  clear o2
  obtain rfl : n_u0 = n_g0 := HU0.out.trans (show n_g0 = (L).length from ints_len g0_2.own).symm
  go_wp2_with fail
  refine (eqIntS_b _ _ _ _ _ (L) _ HU0.out (by omega) g0_2.at_ u0_2.at_).mono ?_
  rintro e w3 ⟨rfl, f3⟩
  have e3 := f3
  have s3 := e3.size
  have B3 := B2.trans (e3.mono B2.size)
  have u0_3 := u0_2.later e3
  have g0_3 := g0_2.later e3
  clear e3 B2 u0_2 g0_2 f3
  go_wp2_with fail
  refine (markIntS_z _ _ _ _ (L) _ (1) _ g0_3.own (by omega) (by omega) (by omega) (by omega)).mono ?_
  rintro e w4 ⟨rfl, k4, g4⟩
  have s4 := g4.size
  have B4 := g0_3.below B3 g4 (by omega) B3.size
  have u0_4 := u0_3.kept g0_3 g4 (by omega)
  have g0_4 := g0_3.written k4 g4
  clear k4 g4 B3 u0_3 g0_3
  go_wp2_with fail
  refine (heldIntS_z _ _ _ _ (1) _ g0_4.at_ (by omega) (by omega) (by omega) (by omega)).mono ?_
  rintro e w5 ⟨rfl, f5⟩
  have e5 := f5
  have s5 := e5.size
  have B5 := B4.trans (e5.mono B4.size)
  have u0_5 := u0_4.later e5
  have g0_5 := g0_4.later e5
  clear e5 B4 u0_4 g0_4 f5
  have tq0_5 : ¬ ((1 + n_u0 * 1 : Nat) : Int) < 0 := by omega
  go_wp2_with fail
  refine (implLng_n a0 a1 _ L HL.out hs9 ht9).mono ?_
  rintro e w6 ⟨b6, n_h0, c6, rfl, o6⟩
  have e6 := o6.below
  have s6 := e6.size
  have B6 := B5.trans (e6.mono B5.size)
  have u0_6 := u0_5.later e6
  have g0_6 := g0_5.later e6
  clear e6 B5 u0_5 g0_5
  have h0_6 := o6.row
  clear o6
  obtain rfl : n_u0 = n_h0 := HU0.out.trans (show n_h0 = (L).length from ints_len h0_6.own).symm
  go_wp2_with fail
  refine (eqIntS_b _ _ _ _ _ (L) _ HU0.out (by omega) h0_6.at_ u0_6.at_).mono ?_
  rintro e w7 ⟨rfl, f7⟩
  have e7 := f7
  have s7 := e7.size
  have B7 := B6.trans (e7.mono B6.size)
  have u0_7 := u0_6.later e7
  have g0_7 := g0_6.later e7
  have h0_7 := h0_6.later e7
  clear e7 B6 u0_6 g0_6 h0_6 f7
  go_wp2_with fail
  refine (heldIntS_z _ _ _ _ (1) _ g0_7.at_ (by omega) (by omega) (by omega) (by omega)).mono ?_
  rintro e w8 ⟨rfl, f8⟩
  have e8 := f8
  have s8 := e8.size
  have B8 := B7.trans (e8.mono B7.size)
  have u0_8 := u0_7.later e8
  have g0_8 := g0_7.later e8
  have h0_8 := h0_7.later e8
  clear e8 B7 u0_7 g0_7 h0_7 f8
  have tq0_8 : ¬ ((1 + n_u0 * 1 : Nat) : Int) < 0 := by omega
  go_wp2
  go_ret
  exact ⟨rfl, B8⟩

end Go.Proofs.Ytnjiooljoekhmaa
