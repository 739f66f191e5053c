/-
  The walks of chapter 5's exact laws over shelves: each returns true, and nothing that was there is written. No conditions. (Written by wip/tools/ch5_exact.py.)
-/
import Derived.Test.YtbnagmjhdnnheaaShelfK
import Derived.Test.YtbnagmjhdnnheaaShelfO
import Derived.Test.YtbnagmjhdnnheaaHelpN
import Derived.Test.YtbnagmjhdnnheaaHelpEntry
import Derived.Test.YtbnagmjhdnnheaaHelpShare
import Derived.Test.YtbnagmjhdnnheaaHelpMark
namespace Go.Proofs.Ytbnagmjhdnnheaa
open Go.RowKit

theorem wf_bounds {n : Int} (h : (Lit.int .i64 n).wf = true) : -9223372036854775808 ≤ n ∧ n ≤ 9223372036854775807 := by
  simp [Lit.wf, IntKind.min, IntKind.max, IntKind.signed, IntKind.bits] at h
  omega
theorem loseL_len (l : List En) (d : Int) : (loseL l d).length ≤ l.length := by
  by_cases h : shOk l
  · rw [loseL_ok h]; exact List.length_filter_le _ _
  · rw [loseL_not h]; exact Nat.zero_le _
theorem joinL5_len (a b : List En) : (joinL5 a b).length ≤ a.length + b.length := by
  by_cases h : shOk a ∧ shOk b
  · rw [joinL5_ok h.1 h.2]; have := rowE_len (a ++ b); rwa [List.length_append] at this
  · rw [joinL5_not h]; exact Nat.zero_le _
theorem shelfL_len (d : Int) (M : List (Int × Int)) : (shelfL d M).length ≤ M.length := by
  by_cases h : d < 0
  · rw [shelfL_not h]; exact Nat.zero_le _
  · rw [shelfL_ok h]; have := rowE_len (M.map fun m => (m.1, d, m.2)); rwa [List.length_map] at this
theorem marksL_room5 (s : List UInt8) (k w : Int) : (marksL s k w).length ≤ s.length := by
  rw [marksL, List.length_map]
  have h1 := chosenN_len (printsL s k) w
  have h2 := printsN_room s k
  unfold marksAt
  omega
theorem askL5_len (l : List En) (M : List (Int × Int)) : (askL5 l M).length ≤ l.length := by
  have h : ∀ D : List Int, (D.flatMap (askD l M)).length ≤ D.length := by
    intro D
    induction D with
    | nil => simp
    | cons d D ih =>
      rw [List.flatMap_cons, List.length_append, List.length_cons]
      have : (askD l M d).length ≤ 1 := by unfold askD; split <;> simp
      omega
  exact Nat.le_trans (h _) (docsL5_len l)

theorem specShelfOf_w (d : Int) (s : ByteArray) (k v : Int) (R : List En) (w : World) (hR : shelfL d (marksL s.data.toList k v) = R) (hs : s.size ≤ 2097152) (hv9 : v ≤ 9223372036854775807) :
    Calls Try.prog 73 #[.int .i64 d, .string s, .int .i64 k, .int .i64 v] w fun e w' => ∃ a n c, e = .returned (.slice a n c) ∧ One w w.heap.size w' 68 3 a n c (entsC R) := by
  subst hR
  refine (specShelfOf_any d s k v _ w rfl (by omega) hv9).mono ?_
  rintro e w2 ⟨g, n, c, h1, h2⟩
  exact ⟨_, n, c, h1, h2⟩

theorem specDocs5_w (l : List En) (a : Option Addr) (n c : Nat) (w : World) (R : List Int) (hR : docsL5 l = R) (hn : n = l.length) (hl : n ≤ 2097152) (hat : CellsAt w a (entsC l)) :
    Calls Try.prog 18 #[.slice a n c] w fun e w' => ∃ a' n' c', e = .returned (.slice a' n' c') ∧ One w w.heap.size w' 3 1 a' n' c' (intCells R) := by
  subst hR
  refine (specDocs5_any l a n c w hn (by omega) hat).mono ?_
  rintro e w2 ⟨g, n', c', h1, h2⟩
  exact ⟨_, n', c', h1, h2⟩

theorem implShelfOf_w (d : Int) (s : ByteArray) (k v : Int) (R : List En) (w : World) (hR : shelfL d (marksL s.data.toList k v) = R) (hs : s.size ≤ 2097152) (hv9 : v ≤ 9223372036854775807) :
    Calls Try.prog 74 #[.int .i64 d, .string s, .int .i64 k, .int .i64 v] w fun e w' => ∃ a n c, e = .returned (.slice a n c) ∧ One w w.heap.size w' 68 3 a n c (entsC R) := by
  subst hR
  refine (implShelfOf_any d s k v _ w rfl (by omega) hv9).mono ?_
  rintro e w2 ⟨g, n, c, h1, h2⟩
  exact ⟨_, n, c, h1, h2⟩

theorem implDocs5_w (l : List En) (a : Option Addr) (n c : Nat) (w : World) (R : List Int) (hR : docsL5 l = R) (hn : n = l.length) (hl : n ≤ 2097152) (hat : CellsAt w a (entsC l)) :
    Calls Try.prog 19 #[.slice a n c] w fun e w' => ∃ a' n' c', e = .returned (.slice a' n' c') ∧ One w w.heap.size w' 3 1 a' n' c' (intCells R) := by
  subst hR
  refine (implDocs5_any l a n c w hn (by omega) hat).mono ?_
  rintro e w2 ⟨g, n', c', h1, h2⟩
  exact ⟨_, n', c', h1, h2⟩

set_option maxHeartbeats 8000000 in
theorem walkFnExactShelfFind (a0 : Option Addr) (n0 c0 : Nat) (l0 : List (En)) (a1 : Int) (w : World) (wi0 : n0 = l0.length ∧ n0 ≤ c0 ∧ c0 ≤ maxLen ∧ (∀ x ∈ l0, (Lit.int .i64 x.1).wf = true ∧ (Lit.int .i64 x.2.1).wf = true ∧ (Lit.int .i64 x.2.2).wf = true) ∧ CellsAt w a0 (entsC l0)) (_wi1 : (Lit.int .i64 a1).wf = true) :
    Calls Try.prog 3 #[.slice a0 n0 c0, .int .i64 a1] w fun e w' => e = .returned (.bool true) ∧ Below w.heap.size w w' := by
  obtain ⟨hn0, hc0, hx0, hok0, hat0⟩ := wi0
  have HN0 := Lib.hid hn0
  have hm0 : n0 ≤ maxLen := Nat.le_trans hc0 hx0
  clear hn0 hc0 hx0
  obtain ⟨w0, HW⟩ : ∃ w0, Hid (w = w0) := ⟨_, Lib.hid rfl⟩
  have B0 : Below w0.heap.size w0 w0 := Below.refl _ _
  rw [HW.out] at hat0 ⊢
  clear HW
  go_enter Try.func3, Try.ntmps3
  go_wp2_with fail
  refine (szEntryS_any _ _ _ 1048576 _ (by omega) hm0).mono ?_
  rintro e w1 ⟨⟨r0, rfl, hr0⟩, rfl⟩
  by_cases hz0 : r0 < 0
  · clear hr0
    go_wp2
    go_ret
    exact ⟨rfl, B0⟩
  have hq0 := hr0.resolve_left hz0
  clear hr0
  obtain ⟨r0, rfl⟩ : ∃ r : Nat, r0 = r := ⟨r0.toNat, by omega⟩
  have hp0 : n0 + r0 ≤ 1048576 := by omega
  clear hq0 hz0
  have hn9_0 : n0 ≤ 1048576 := by omega
  have HM := Lib.hid (show (findL5 l0 a1).length ≤ n0 by rw [HN0.out]; exact findL5_len _ _)
  go_wp2_with fail
  refine (toEntryS_any l0 _ _ _ _ HN0.out hn9_0 (hat0.below B0)).mono ?_
  rintro e w1 ⟨b1, rfl, o1⟩
  have e1 := o1.below
  have s1 := e1.size
  have B1 := B0.trans (e1.mono B0.size)
  clear e1 B0 
  have x0_1 := o1.row
  clear o1
  go_wp2_with fail
  refine (specFind5_any l0 a1 _ _ _ _ HN0.out (by omega) (by omega) (by unfold maxLen; omega) x0_1.at_).mono ?_
  rintro e w2 ⟨b2, n_u0, c2, rfl, o2⟩
  have e2 := o2.below
  have s2 := e2.size
  have B2 := B1.trans (e2.mono B1.size)
  have x0_2 := x0_1.later e2
  clear e2 B1 x0_1
  have u0_2 := o2.row
  clear o2
  have hu0 : n_u0 = (findL5 l0 a1).length := by have h := u0_2.own.1; rw [entsC, flat_len entC 3 lenEntry] at h; omega
  have HU0 := Lib.hid hu0
  have hv0 : n_u0 ≤ 4194304 := by rw [hu0]; have := HM.out; omega
  clear hu0
  clear x0_2
  go_wp2_with fail
  refine (toEntryS_any l0 _ _ _ _ HN0.out hn9_0 (hat0.below B2)).mono ?_
  rintro e w3 ⟨b3, rfl, o3⟩
  have e3 := o3.below
  have s3 := e3.size
  have B3 := B2.trans (e3.mono B2.size)
  have u0_3 := u0_2.later e3
  clear e3 B2 u0_2
  have y0_3 := o3.row
  clear o3
  go_wp2_with fail
  refine (implFind5_any l0 a1 _ _ _ _ HN0.out (by omega) (by omega) y0_3.at_).mono ?_
  rintro e w4 ⟨b4, n_g0, c4, rfl, o4⟩
  have e4 := o4.below
  have s4 := e4.size
  have B4 := B3.trans (e4.mono B3.size)
  have u0_4 := u0_3.later e4
  have y0_4 := y0_3.later e4
  clear e4 B3 u0_3 y0_3
  have g0_4 := o4.row
  clear o4
  obtain rfl : n_u0 = n_g0 := HU0.out.trans (show n_g0 = (findL5 l0 a1).length from by have h := g0_4.own.1; rw [entsC, flat_len entC 3 lenEntry] at h; omega).symm
  go_wp2_with fail
  refine (eqEntryS_same _ _ _ _ _ (findL5 l0 a1) _ HU0.out (by omega) g0_4.at_ u0_4.at_).mono ?_
  rintro e w5 ⟨rfl, f5⟩
  have e5 := f5
  have s5 := e5.size
  have B5 := B4.trans (e5.mono B4.size)
  have u0_5 := u0_4.later e5
  have y0_5 := y0_4.later e5
  have g0_5 := g0_4.later e5
  clear e5 B4 u0_4 y0_4 g0_4 f5
  go_wp2_with fail
  refine (toEntryS_any l0 _ _ _ _ HN0.out hn9_0 (hat0.below B5)).mono ?_
  rintro e w6 ⟨b6, rfl, o6⟩
  have e6 := o6.below
  have s6 := e6.size
  have B6 := B5.trans (e6.mono B5.size)
  have u0_6 := u0_5.later e6
  have y0_6 := y0_5.later e6
  have g0_6 := g0_5.later e6
  clear e6 B5 u0_5 y0_5 g0_5
  have z0_6 := o6.row
  clear o6
  go_wp2_with fail
  refine (eqEntryS_same _ _ _ _ _ l0 _ HN0.out (by omega) y0_6.at_ z0_6.at_).mono ?_
  rintro e w7 ⟨rfl, f7⟩
  have e7 := f7
  have s7 := e7.size
  have B7 := B6.trans (e7.mono B6.size)
  have u0_7 := u0_6.later e7
  have y0_7 := y0_6.later e7
  have g0_7 := g0_6.later e7
  have z0_7 := z0_6.later e7
  clear e7 B6 u0_6 y0_6 g0_6 z0_6 f7
  clear z0_7
  go_wp2_with fail
  refine (markEntryS_z _ _ _ _ l0 _ (1) _ y0_7.own (by omega) (by omega) (by omega) (by omega)).mono ?_
  rintro e w8 ⟨rfl, k8, g8⟩
  have s8 := g8.size
  have B8 := y0_7.below B7 g8 (by omega) B7.size
  have u0_8 := u0_7.kept y0_7 g8 (by omega)
  have y0_8 := y0_7.written k8 g8
  have g0_8 := g0_7.kept y0_7 g8 (by omega)
  clear k8 g8 B7 u0_7 y0_7 g0_7
  have tk : ¬ ((1 + n0 * 3 : Nat) : Int) < 0 := by omega
  go_wp2_with fail
  refine (eqEntryS_same _ _ _ _ _ (findL5 l0 a1) _ HU0.out (by omega) g0_8.at_ u0_8.at_).mono ?_
  rintro e w9 ⟨rfl, f9⟩
  have e9 := f9
  have s9 := e9.size
  have B9 := B8.trans (e9.mono B8.size)
  have u0_9 := u0_8.later e9
  have y0_9 := y0_8.later e9
  have g0_9 := g0_8.later e9
  clear e9 B8 u0_8 y0_8 g0_8 f9
  clear y0_9
  go_wp2_with fail
  refine (markEntryS_z _ _ _ _ (findL5 l0 a1) _ (1) _ g0_9.own (by omega) (by omega) (by omega) (by omega)).mono ?_
  rintro e w10 ⟨rfl, k10, g10⟩
  have s10 := g10.size
  have B10 := g0_9.below B9 g10 (by omega) B9.size
  have u0_10 := u0_9.kept g0_9 g10 (by omega)
  have g0_10 := g0_9.written k10 g10
  clear k10 g10 B9 u0_9 g0_9
  go_wp2_with fail
  refine (heldEntryS_z _ _ _ _ (1) _ g0_10.at_ (by omega) (by omega) (by omega) (by omega)).mono ?_
  rintro e w11 ⟨rfl, f11⟩
  have e11 := f11
  have s11 := e11.size
  have B11 := B10.trans (e11.mono B10.size)
  have u0_11 := u0_10.later e11
  have g0_11 := g0_10.later e11
  clear e11 B10 u0_10 g0_10 f11
  have tq0_11 : ¬ ((1 + n_u0 * 3 : Nat) : Int) < 0 := by omega
  go_wp2_with fail
  refine (toEntryS_any l0 _ _ _ _ HN0.out hn9_0 (hat0.below B11)).mono ?_
  rintro e w12 ⟨b12, rfl, o12⟩
  have e12 := o12.below
  have s12 := e12.size
  have B12 := B11.trans (e12.mono B11.size)
  have u0_12 := u0_11.later e12
  have g0_12 := g0_11.later e12
  clear e12 B11 u0_11 g0_11
  have v0_12 := o12.row
  clear o12
  go_wp2_with fail
  refine (implFind5_any l0 a1 _ _ _ _ HN0.out (by omega) (by omega) v0_12.at_).mono ?_
  rintro e w13 ⟨b13, n_h0, c13, rfl, o13⟩
  have e13 := o13.below
  have s13 := e13.size
  have B13 := B12.trans (e13.mono B12.size)
  have u0_13 := u0_12.later e13
  have g0_13 := g0_12.later e13
  have v0_13 := v0_12.later e13
  clear e13 B12 u0_12 g0_12 v0_12
  have h0_13 := o13.row
  clear o13
  obtain rfl : n_u0 = n_h0 := HU0.out.trans (show n_h0 = (findL5 l0 a1).length from by have h := h0_13.own.1; rw [entsC, flat_len entC 3 lenEntry] at h; omega).symm
  clear v0_13
  go_wp2_with fail
  refine (eqEntryS_same _ _ _ _ _ (findL5 l0 a1) _ HU0.out (by omega) h0_13.at_ u0_13.at_).mono ?_
  rintro e w14 ⟨rfl, f14⟩
  have e14 := f14
  have s14 := e14.size
  have B14 := B13.trans (e14.mono B13.size)
  have u0_14 := u0_13.later e14
  have g0_14 := g0_13.later e14
  have h0_14 := h0_13.later e14
  clear e14 B13 u0_13 g0_13 h0_13 f14
  go_wp2_with fail
  refine (heldEntryS_z _ _ _ _ (1) _ g0_14.at_ (by omega) (by omega) (by omega) (by omega)).mono ?_
  rintro e w15 ⟨rfl, f15⟩
  have e15 := f15
  have s15 := e15.size
  have B15 := B14.trans (e15.mono B14.size)
  have u0_15 := u0_14.later e15
  have g0_15 := g0_14.later e15
  have h0_15 := h0_14.later e15
  clear e15 B14 u0_14 g0_14 h0_14 f15
  have tq0_15 : ¬ ((1 + n_u0 * 3 : Nat) : Int) < 0 := by omega
  go_wp2
  go_ret
  exact ⟨rfl, B15⟩

set_option maxHeartbeats 8000000 in
theorem walkFnExactShelfDocs (a0 : Option Addr) (n0 c0 : Nat) (l0 : List (En)) (w : World) (wi0 : n0 = l0.length ∧ n0 ≤ c0 ∧ c0 ≤ maxLen ∧ (∀ x ∈ l0, (Lit.int .i64 x.1).wf = true ∧ (Lit.int .i64 x.2.1).wf = true ∧ (Lit.int .i64 x.2.2).wf = true) ∧ CellsAt w a0 (entsC l0)) :
    Calls Try.prog 4 #[.slice a0 n0 c0] w fun e w' => e = .returned (.bool true) ∧ Below w.heap.size w w' := by
  obtain ⟨hn0, hc0, hx0, hok0, hat0⟩ := wi0
  have HN0 := Lib.hid hn0
  have hm0 : n0 ≤ maxLen := Nat.le_trans hc0 hx0
  clear hn0 hc0 hx0
  obtain ⟨w0, HW⟩ : ∃ w0, Hid (w = w0) := ⟨_, Lib.hid rfl⟩
  have B0 : Below w0.heap.size w0 w0 := Below.refl _ _
  rw [HW.out] at hat0 ⊢
  clear HW
  go_enter Try.func4, Try.ntmps4
  go_wp2_with fail
  refine (szEntryS_any _ _ _ 1048576 _ (by omega) hm0).mono ?_
  rintro e w1 ⟨⟨r0, rfl, hr0⟩, rfl⟩
  by_cases hz0 : r0 < 0
  · clear hr0
    go_wp2
    go_ret
    exact ⟨rfl, B0⟩
  have hq0 := hr0.resolve_left hz0
  clear hr0
  obtain ⟨r0, rfl⟩ : ∃ r : Nat, r0 = r := ⟨r0.toNat, by omega⟩
  have hp0 : n0 + r0 ≤ 1048576 := by omega
  clear hq0 hz0
  have hn9_0 : n0 ≤ 1048576 := by omega
  obtain ⟨R, hR⟩ : ∃ R, docsL5 l0 = R := ⟨_, rfl⟩
  have HR := Lib.hid hR
  have HM := Lib.hid (show R.length ≤ n0 by rw [← hR, HN0.out]; exact docsL5_len _)
  clear hR
  go_wp2_with fail
  refine (toEntryS_any l0 _ _ _ _ HN0.out hn9_0 (hat0.below B0)).mono ?_
  rintro e w1 ⟨b1, rfl, o1⟩
  have e1 := o1.below
  have s1 := e1.size
  have B1 := B0.trans (e1.mono B0.size)
  clear e1 B0 
  have x0_1 := o1.row
  clear o1
  go_wp2_with fail
  refine (specDocs5_w l0 _ _ _ _ R HR.out HN0.out (by omega) x0_1.at_).mono ?_
  rintro e w2 ⟨b2, n_u0, c2, rfl, o2⟩
  have e2 := o2.below
  have s2 := e2.size
  have B2 := B1.trans (e2.mono B1.size)
  have x0_2 := x0_1.later e2
  clear e2 B1 x0_1
  have u0_2 := o2.row
  clear o2
  have hu0 : n_u0 = (R).length := ints_len u0_2.own
  have HU0 := Lib.hid hu0
  have hv0 : n_u0 ≤ 4194304 := by rw [hu0]; have := HM.out; omega
  clear hu0
  clear x0_2
  go_wp2_with fail
  refine (toEntryS_any l0 _ _ _ _ HN0.out hn9_0 (hat0.below B2)).mono ?_
  rintro e w3 ⟨b3, rfl, o3⟩
  have e3 := o3.below
  have s3 := e3.size
  have B3 := B2.trans (e3.mono B2.size)
  have u0_3 := u0_2.later e3
  clear e3 B2 u0_2
  have y0_3 := o3.row
  clear o3
  go_wp2_with fail
  refine (implDocs5_w l0 _ _ _ _ R HR.out HN0.out (by omega) y0_3.at_).mono ?_
  rintro e w4 ⟨b4, n_g0, c4, rfl, o4⟩
  have e4 := o4.below
  have s4 := e4.size
  have B4 := B3.trans (e4.mono B3.size)
  have u0_4 := u0_3.later e4
  have y0_4 := y0_3.later e4
  clear e4 B3 u0_3 y0_3
  have g0_4 := o4.row
  clear o4
  obtain rfl : n_u0 = n_g0 := HU0.out.trans (show n_g0 = (R).length from ints_len g0_4.own).symm
  go_wp2_with fail
  refine (eqIntS_b _ _ _ _ _ (R) _ HU0.out (by omega) g0_4.at_ u0_4.at_).mono ?_
  rintro e w5 ⟨rfl, f5⟩
  have e5 := f5
  have s5 := e5.size
  have B5 := B4.trans (e5.mono B4.size)
  have u0_5 := u0_4.later e5
  have y0_5 := y0_4.later e5
  have g0_5 := g0_4.later e5
  clear e5 B4 u0_4 y0_4 g0_4 f5
  go_wp2_with fail
  refine (toEntryS_any l0 _ _ _ _ HN0.out hn9_0 (hat0.below B5)).mono ?_
  rintro e w6 ⟨b6, rfl, o6⟩
  have e6 := o6.below
  have s6 := e6.size
  have B6 := B5.trans (e6.mono B5.size)
  have u0_6 := u0_5.later e6
  have y0_6 := y0_5.later e6
  have g0_6 := g0_5.later e6
  clear e6 B5 u0_5 y0_5 g0_5
  have z0_6 := o6.row
  clear o6
  go_wp2_with fail
  refine (eqEntryS_same _ _ _ _ _ l0 _ HN0.out (by omega) y0_6.at_ z0_6.at_).mono ?_
  rintro e w7 ⟨rfl, f7⟩
  have e7 := f7
  have s7 := e7.size
  have B7 := B6.trans (e7.mono B6.size)
  have u0_7 := u0_6.later e7
  have y0_7 := y0_6.later e7
  have g0_7 := g0_6.later e7
  have z0_7 := z0_6.later e7
  clear e7 B6 u0_6 y0_6 g0_6 z0_6 f7
  clear z0_7
  go_wp2_with fail
  refine (markEntryS_z _ _ _ _ l0 _ (1) _ y0_7.own (by omega) (by omega) (by omega) (by omega)).mono ?_
  rintro e w8 ⟨rfl, k8, g8⟩
  have s8 := g8.size
  have B8 := y0_7.below B7 g8 (by omega) B7.size
  have u0_8 := u0_7.kept y0_7 g8 (by omega)
  have y0_8 := y0_7.written k8 g8
  have g0_8 := g0_7.kept y0_7 g8 (by omega)
  clear k8 g8 B7 u0_7 y0_7 g0_7
  have tk : ¬ ((1 + n0 * 3 : Nat) : Int) < 0 := by omega
  go_wp2_with fail
  refine (eqIntS_b _ _ _ _ _ (R) _ HU0.out (by omega) g0_8.at_ u0_8.at_).mono ?_
  rintro e w9 ⟨rfl, f9⟩
  have e9 := f9
  have s9 := e9.size
  have B9 := B8.trans (e9.mono B8.size)
  have u0_9 := u0_8.later e9
  have y0_9 := y0_8.later e9
  have g0_9 := g0_8.later e9
  clear e9 B8 u0_8 y0_8 g0_8 f9
  clear y0_9
  go_wp2_with fail
  refine (markIntS_z _ _ _ _ (R) _ (1) _ g0_9.own (by omega) (by omega) (by omega) (by omega)).mono ?_
  rintro e w10 ⟨rfl, k10, g10⟩
  have s10 := g10.size
  have B10 := g0_9.below B9 g10 (by omega) B9.size
  have u0_10 := u0_9.kept g0_9 g10 (by omega)
  have g0_10 := g0_9.written k10 g10
  clear k10 g10 B9 u0_9 g0_9
  go_wp2_with fail
  refine (heldIntS_z _ _ _ _ (1) _ g0_10.at_ (by omega) (by omega) (by omega) (by omega)).mono ?_
  rintro e w11 ⟨rfl, f11⟩
  have e11 := f11
  have s11 := e11.size
  have B11 := B10.trans (e11.mono B10.size)
  have u0_11 := u0_10.later e11
  have g0_11 := g0_10.later e11
  clear e11 B10 u0_10 g0_10 f11
  have tq0_11 : ¬ ((1 + n_u0 * 1 : Nat) : Int) < 0 := by omega
  go_wp2_with fail
  refine (toEntryS_any l0 _ _ _ _ HN0.out hn9_0 (hat0.below B11)).mono ?_
  rintro e w12 ⟨b12, rfl, o12⟩
  have e12 := o12.below
  have s12 := e12.size
  have B12 := B11.trans (e12.mono B11.size)
  have u0_12 := u0_11.later e12
  have g0_12 := g0_11.later e12
  clear e12 B11 u0_11 g0_11
  have v0_12 := o12.row
  clear o12
  go_wp2_with fail
  refine (implDocs5_w l0 _ _ _ _ R HR.out HN0.out (by omega) v0_12.at_).mono ?_
  rintro e w13 ⟨b13, n_h0, c13, rfl, o13⟩
  have e13 := o13.below
  have s13 := e13.size
  have B13 := B12.trans (e13.mono B12.size)
  have u0_13 := u0_12.later e13
  have g0_13 := g0_12.later e13
  have v0_13 := v0_12.later e13
  clear e13 B12 u0_12 g0_12 v0_12
  have h0_13 := o13.row
  clear o13
  obtain rfl : n_u0 = n_h0 := HU0.out.trans (show n_h0 = (R).length from ints_len h0_13.own).symm
  clear v0_13
  go_wp2_with fail
  refine (eqIntS_b _ _ _ _ _ (R) _ HU0.out (by omega) h0_13.at_ u0_13.at_).mono ?_
  rintro e w14 ⟨rfl, f14⟩
  have e14 := f14
  have s14 := e14.size
  have B14 := B13.trans (e14.mono B13.size)
  have u0_14 := u0_13.later e14
  have g0_14 := g0_13.later e14
  have h0_14 := h0_13.later e14
  clear e14 B13 u0_13 g0_13 h0_13 f14
  go_wp2_with fail
  refine (heldIntS_z _ _ _ _ (1) _ g0_14.at_ (by omega) (by omega) (by omega) (by omega)).mono ?_
  rintro e w15 ⟨rfl, f15⟩
  have e15 := f15
  have s15 := e15.size
  have B15 := B14.trans (e15.mono B14.size)
  have u0_15 := u0_14.later e15
  have g0_15 := g0_14.later e15
  have h0_15 := h0_14.later e15
  clear e15 B14 u0_14 g0_14 h0_14 f15
  have tq0_15 : ¬ ((1 + n_u0 * 1 : Nat) : Int) < 0 := by omega
  go_wp2
  go_ret
  exact ⟨rfl, B15⟩

set_option maxHeartbeats 8000000 in
theorem walkFnExactShelfAsk (a0 : Option Addr) (n0 c0 : Nat) (l0 : List (En)) (a1 : Option Addr) (n1 c1 : Nat) (l1 : List (Int × Int)) (w : World) (wi0 : n0 = l0.length ∧ n0 ≤ c0 ∧ c0 ≤ maxLen ∧ (∀ x ∈ l0, (Lit.int .i64 x.1).wf = true ∧ (Lit.int .i64 x.2.1).wf = true ∧ (Lit.int .i64 x.2.2).wf = true) ∧ CellsAt w a0 (entsC l0)) (wi1 : n1 = l1.length ∧ n1 ≤ c1 ∧ c1 ≤ maxLen ∧ (∀ x ∈ l1, (Lit.int .i64 x.1).wf = true ∧ (Lit.int .i64 x.2).wf = true) ∧ CellsAt w a1 (pairsC l1)) :
    Calls Try.prog 5 #[.slice a0 n0 c0, .slice a1 n1 c1] w fun e w' => e = .returned (.bool true) ∧ Below w.heap.size w w' := by
  obtain ⟨hn0, hc0, hx0, hok0, hat0⟩ := wi0
  have HN0 := Lib.hid hn0
  have hm0 : n0 ≤ maxLen := Nat.le_trans hc0 hx0
  clear hn0 hc0 hx0
  obtain ⟨hn1, hc1, hx1, hok1, hat1⟩ := wi1
  have HN1 := Lib.hid hn1
  have hm1 : n1 ≤ maxLen := Nat.le_trans hc1 hx1
  clear hn1 hc1 hx1
  obtain ⟨w0, HW⟩ : ∃ w0, Hid (w = w0) := ⟨_, Lib.hid rfl⟩
  have B0 : Below w0.heap.size w0 w0 := Below.refl _ _
  rw [HW.out] at hat0 hat1 ⊢
  clear HW
  go_enter Try.func5, Try.ntmps5
  go_wp2_with fail
  refine (szEntryS_any _ _ _ 1048576 _ (by omega) hm0).mono ?_
  rintro e w1 ⟨⟨r0, rfl, hr0⟩, rfl⟩
  by_cases hz0 : r0 < 0
  · clear hr0
    go_wp2
    go_ret
    exact ⟨rfl, B0⟩
  have hq0 := hr0.resolve_left hz0
  clear hr0
  obtain ⟨r0, rfl⟩ : ∃ r : Nat, r0 = r := ⟨r0.toNat, by omega⟩
  have hp0 : n0 + r0 ≤ 1048576 := by omega
  clear hq0 hz0
  go_wp2_with fail
  refine (szMarkS_any _ _ _ r0 _ (by omega) hm1).mono ?_
  rintro e w1 ⟨⟨r1, rfl, hr1⟩, rfl⟩
  by_cases hz1 : r1 < 0
  · clear hr1
    go_wp2
    go_ret
    exact ⟨rfl, B0⟩
  have hq1 := hr1.resolve_left hz1
  clear hr1
  obtain ⟨r1, rfl⟩ : ∃ r : Nat, r1 = r := ⟨r1.toNat, by omega⟩
  have hp1 : n1 + r1 ≤ r0 := by omega
  clear hq1 hz1
  have hn9_0 : n0 ≤ 1048576 := by omega
  have hn9_1 : n1 ≤ 1048576 := by omega
  have HM := Lib.hid (show (askL5 l0 l1).length ≤ n0 by rw [HN0.out]; exact askL5_len _ _)
  go_wp2_with fail
  refine (toEntryS_any l0 _ _ _ _ HN0.out hn9_0 (hat0.below B0)).mono ?_
  rintro e w1 ⟨b1, rfl, o1⟩
  have e1 := o1.below
  have s1 := e1.size
  have B1 := B0.trans (e1.mono B0.size)
  clear e1 B0 
  have x0_1 := o1.row
  clear o1
  go_wp2_with fail
  refine (toMarkS_any l1 _ _ _ _ HN1.out hn9_1 (hat1.below B1)).mono ?_
  rintro e w2 ⟨b2, rfl, o2⟩
  have e2 := o2.below
  have s2 := e2.size
  have B2 := B1.trans (e2.mono B1.size)
  have x0_2 := x0_1.later e2
  clear e2 B1 x0_1
  have x1_2 := o2.row
  clear o2
  go_wp2_with fail
  refine (specAsk5_any l0 l1 _ _ _ _ _ _ _ HN0.out HN1.out (by omega) (by omega) (by omega) (by unfold maxLen; omega) x0_2.at_ x1_2.at_).mono ?_
  rintro e w3 ⟨b3, n_u0, c3, rfl, o3⟩
  have e3 := o3.below
  have s3 := e3.size
  have B3 := B2.trans (e3.mono B2.size)
  have x0_3 := x0_2.later e3
  have x1_3 := x1_2.later e3
  clear e3 B2 x0_2 x1_2
  have u0_3 := o3.row
  clear o3
  have hu0 : n_u0 = (askL5 l0 l1).length := by have h := u0_3.own.1; rw [pairsC, flat_len pairC 2 lenShare] at h; omega
  have HU0 := Lib.hid hu0
  have hv0 : n_u0 ≤ 4194304 := by rw [hu0]; have := HM.out; omega
  clear hu0
  clear x0_3
  clear x1_3
  go_wp2_with fail
  refine (toEntryS_any l0 _ _ _ _ HN0.out hn9_0 (hat0.below B3)).mono ?_
  rintro e w4 ⟨b4, rfl, o4⟩
  have e4 := o4.below
  have s4 := e4.size
  have B4 := B3.trans (e4.mono B3.size)
  have u0_4 := u0_3.later e4
  clear e4 B3 u0_3
  have y0_4 := o4.row
  clear o4
  go_wp2_with fail
  refine (toMarkS_any l1 _ _ _ _ HN1.out hn9_1 (hat1.below B4)).mono ?_
  rintro e w5 ⟨b5, rfl, o5⟩
  have e5 := o5.below
  have s5 := e5.size
  have B5 := B4.trans (e5.mono B4.size)
  have u0_5 := u0_4.later e5
  have y0_5 := y0_4.later e5
  clear e5 B4 u0_4 y0_4
  have y1_5 := o5.row
  clear o5
  go_wp2_with fail
  refine (implAsk5_any l0 l1 _ _ _ _ _ _ _ HN0.out HN1.out (by omega) (by omega) y0_5.at_ y1_5.at_).mono ?_
  rintro e w6 ⟨b6, n_g0, c6, rfl, o6⟩
  have e6 := o6.below
  have s6 := e6.size
  have B6 := B5.trans (e6.mono B5.size)
  have u0_6 := u0_5.later e6
  have y0_6 := y0_5.later e6
  have y1_6 := y1_5.later e6
  clear e6 B5 u0_5 y0_5 y1_5
  have g0_6 := o6.row
  clear o6
  obtain rfl : n_u0 = n_g0 := HU0.out.trans (show n_g0 = (askL5 l0 l1).length from by have h := g0_6.own.1; rw [pairsC, flat_len pairC 2 lenShare] at h; omega).symm
  go_wp2_with fail
  refine (eqShareS_same _ _ _ _ _ (askL5 l0 l1) _ HU0.out (by omega) g0_6.at_ u0_6.at_).mono ?_
  rintro e w7 ⟨rfl, f7⟩
  have e7 := f7
  have s7 := e7.size
  have B7 := B6.trans (e7.mono B6.size)
  have u0_7 := u0_6.later e7
  have y0_7 := y0_6.later e7
  have y1_7 := y1_6.later e7
  have g0_7 := g0_6.later e7
  clear e7 B6 u0_6 y0_6 y1_6 g0_6 f7
  go_wp2_with fail
  refine (toEntryS_any l0 _ _ _ _ HN0.out hn9_0 (hat0.below B7)).mono ?_
  rintro e w8 ⟨b8, rfl, o8⟩
  have e8 := o8.below
  have s8 := e8.size
  have B8 := B7.trans (e8.mono B7.size)
  have u0_8 := u0_7.later e8
  have y0_8 := y0_7.later e8
  have y1_8 := y1_7.later e8
  have g0_8 := g0_7.later e8
  clear e8 B7 u0_7 y0_7 y1_7 g0_7
  have z0_8 := o8.row
  clear o8
  go_wp2_with fail
  refine (eqEntryS_same _ _ _ _ _ l0 _ HN0.out (by omega) y0_8.at_ z0_8.at_).mono ?_
  rintro e w9 ⟨rfl, f9⟩
  have e9 := f9
  have s9 := e9.size
  have B9 := B8.trans (e9.mono B8.size)
  have u0_9 := u0_8.later e9
  have y0_9 := y0_8.later e9
  have y1_9 := y1_8.later e9
  have g0_9 := g0_8.later e9
  have z0_9 := z0_8.later e9
  clear e9 B8 u0_8 y0_8 y1_8 g0_8 z0_8 f9
  clear z0_9
  go_wp2_with fail
  refine (toMarkS_any l1 _ _ _ _ HN1.out hn9_1 (hat1.below B9)).mono ?_
  rintro e w10 ⟨b10, rfl, o10⟩
  have e10 := o10.below
  have s10 := e10.size
  have B10 := B9.trans (e10.mono B9.size)
  have u0_10 := u0_9.later e10
  have y0_10 := y0_9.later e10
  have y1_10 := y1_9.later e10
  have g0_10 := g0_9.later e10
  clear e10 B9 u0_9 y0_9 y1_9 g0_9
  have z1_10 := o10.row
  clear o10
  go_wp2_with fail
  refine (eqMarkS_same _ _ _ _ _ l1 _ HN1.out (by omega) y1_10.at_ z1_10.at_).mono ?_
  rintro e w11 ⟨rfl, f11⟩
  have e11 := f11
  have s11 := e11.size
  have B11 := B10.trans (e11.mono B10.size)
  have u0_11 := u0_10.later e11
  have y0_11 := y0_10.later e11
  have y1_11 := y1_10.later e11
  have g0_11 := g0_10.later e11
  have z1_11 := z1_10.later e11
  clear e11 B10 u0_10 y0_10 y1_10 g0_10 z1_10 f11
  clear z1_11
  go_wp2_with fail
  refine (markEntryS_z _ _ _ _ l0 _ (1) _ y0_11.own (by omega) (by omega) (by omega) (by omega)).mono ?_
  rintro e w12 ⟨rfl, k12, g12⟩
  have s12 := g12.size
  have B12 := y0_11.below B11 g12 (by omega) B11.size
  have u0_12 := u0_11.kept y0_11 g12 (by omega)
  have y0_12 := y0_11.written k12 g12
  have y1_12 := y1_11.kept y0_11 g12 (by omega)
  have g0_12 := g0_11.kept y0_11 g12 (by omega)
  clear k12 g12 B11 u0_11 y0_11 y1_11 g0_11
  go_wp2_with fail
  refine (markMarkS_z _ _ _ _ l1 _ (1 + n0 * 3) _ y1_12.own (by omega) (by omega) (by omega) (by omega)).mono ?_
  rintro e w13 ⟨rfl, k13, g13⟩
  have s13 := g13.size
  have B13 := y1_12.below B12 g13 (by omega) B12.size
  have u0_13 := u0_12.kept y1_12 g13 (by omega)
  have y0_13 := y0_12.kept y1_12 g13 (by omega)
  have y1_13 := y1_12.written k13 g13
  have g0_13 := g0_12.kept y1_12 g13 (by omega)
  clear k13 g13 B12 u0_12 y0_12 y1_12 g0_12
  have tk : ¬ ((1 + n0 * 3 + n1 * 2 : Nat) : Int) < 0 := by omega
  go_wp2_with fail
  refine (eqShareS_same _ _ _ _ _ (askL5 l0 l1) _ HU0.out (by omega) g0_13.at_ u0_13.at_).mono ?_
  rintro e w14 ⟨rfl, f14⟩
  have e14 := f14
  have s14 := e14.size
  have B14 := B13.trans (e14.mono B13.size)
  have u0_14 := u0_13.later e14
  have y0_14 := y0_13.later e14
  have y1_14 := y1_13.later e14
  have g0_14 := g0_13.later e14
  clear e14 B13 u0_13 y0_13 y1_13 g0_13 f14
  clear y0_14
  clear y1_14
  go_wp2_with fail
  refine (markShareS_z _ _ _ _ (askL5 l0 l1) _ (1) _ g0_14.own (by omega) (by omega) (by omega) (by omega)).mono ?_
  rintro e w15 ⟨rfl, k15, g15⟩
  have s15 := g15.size
  have B15 := g0_14.below B14 g15 (by omega) B14.size
  have u0_15 := u0_14.kept g0_14 g15 (by omega)
  have g0_15 := g0_14.written k15 g15
  clear k15 g15 B14 u0_14 g0_14
  go_wp2_with fail
  refine (heldShareS_z _ _ _ _ (1) _ g0_15.at_ (by omega) (by omega) (by omega) (by omega)).mono ?_
  rintro e w16 ⟨rfl, f16⟩
  have e16 := f16
  have s16 := e16.size
  have B16 := B15.trans (e16.mono B15.size)
  have u0_16 := u0_15.later e16
  have g0_16 := g0_15.later e16
  clear e16 B15 u0_15 g0_15 f16
  have tq0_16 : ¬ ((1 + n_u0 * 2 : Nat) : Int) < 0 := by omega
  go_wp2_with fail
  refine (toEntryS_any l0 _ _ _ _ HN0.out hn9_0 (hat0.below B16)).mono ?_
  rintro e w17 ⟨b17, rfl, o17⟩
  have e17 := o17.below
  have s17 := e17.size
  have B17 := B16.trans (e17.mono B16.size)
  have u0_17 := u0_16.later e17
  have g0_17 := g0_16.later e17
  clear e17 B16 u0_16 g0_16
  have v0_17 := o17.row
  clear o17
  go_wp2_with fail
  refine (toMarkS_any l1 _ _ _ _ HN1.out hn9_1 (hat1.below B17)).mono ?_
  rintro e w18 ⟨b18, rfl, o18⟩
  have e18 := o18.below
  have s18 := e18.size
  have B18 := B17.trans (e18.mono B17.size)
  have u0_18 := u0_17.later e18
  have g0_18 := g0_17.later e18
  have v0_18 := v0_17.later e18
  clear e18 B17 u0_17 g0_17 v0_17
  have v1_18 := o18.row
  clear o18
  go_wp2_with fail
  refine (implAsk5_any l0 l1 _ _ _ _ _ _ _ HN0.out HN1.out (by omega) (by omega) v0_18.at_ v1_18.at_).mono ?_
  rintro e w19 ⟨b19, n_h0, c19, rfl, o19⟩
  have e19 := o19.below
  have s19 := e19.size
  have B19 := B18.trans (e19.mono B18.size)
  have u0_19 := u0_18.later e19
  have g0_19 := g0_18.later e19
  have v0_19 := v0_18.later e19
  have v1_19 := v1_18.later e19
  clear e19 B18 u0_18 g0_18 v0_18 v1_18
  have h0_19 := o19.row
  clear o19
  obtain rfl : n_u0 = n_h0 := HU0.out.trans (show n_h0 = (askL5 l0 l1).length from by have h := h0_19.own.1; rw [pairsC, flat_len pairC 2 lenShare] at h; omega).symm
  clear v0_19
  clear v1_19
  go_wp2_with fail
  refine (eqShareS_same _ _ _ _ _ (askL5 l0 l1) _ HU0.out (by omega) h0_19.at_ u0_19.at_).mono ?_
  rintro e w20 ⟨rfl, f20⟩
  have e20 := f20
  have s20 := e20.size
  have B20 := B19.trans (e20.mono B19.size)
  have u0_20 := u0_19.later e20
  have g0_20 := g0_19.later e20
  have h0_20 := h0_19.later e20
  clear e20 B19 u0_19 g0_19 h0_19 f20
  go_wp2_with fail
  refine (heldShareS_z _ _ _ _ (1) _ g0_20.at_ (by omega) (by omega) (by omega) (by omega)).mono ?_
  rintro e w21 ⟨rfl, f21⟩
  have e21 := f21
  have s21 := e21.size
  have B21 := B20.trans (e21.mono B20.size)
  have u0_21 := u0_20.later e21
  have g0_21 := g0_20.later e21
  have h0_21 := h0_20.later e21
  clear e21 B20 u0_20 g0_20 h0_20 f21
  have tq0_21 : ¬ ((1 + n_u0 * 2 : Nat) : Int) < 0 := by omega
  go_wp2
  go_ret
  exact ⟨rfl, B21⟩


end Go.Proofs.Ytbnagmjhdnnheaa
