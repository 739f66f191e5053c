/-
  The walks of chapter 2's exact laws over rows of words and texts: each returns true, and nothing that was there is written. No conditions.
-/
import Derived.Test.YtgbmmdcelonahaaHelpWord
import Derived.Test.YtgbmmdcelonahaaHelpN
import Derived.Test.YtgbmmdcelonahaaTexts
import Derived.OpenShut
namespace Go.Proofs.Ytgbmmdcelonahaa
open Go.RowKit

theorem totWord_le (l : List WordM) : totalS (textsM l) = totWord l := by
  rw [totalS, textsM, totWord, List.map_map]; rfl

set_option maxHeartbeats 4000000 in
theorem walkFnExactJoined (a0 : Option Addr) (n0 c0 : Nat) (l0 : List ByteArray) (w : World) (w0 : n0 = l0.length ∧ n0 ≤ c0 ∧ c0 ≤ maxLen ∧ (∀ x ∈ l0, x.size ≤ maxLen) ∧ CellsAt w a0 (strsC l0)) :
    Calls Try.prog 5 #[.slice a0 n0 c0] w fun e w' => e = .returned (.bool true) ∧ Below w.heap.size w w' := by
  obtain ⟨hn, hc, hm, hok, hat⟩ := w0
  have HN := Lib.hid hn
  have hm9 : n0 ≤ maxLen := Nat.le_trans hc hm
  clear hn hc hm
  go_enter Try.func5, Try.ntmps5
  go_wp2_with fail
  refine (szStringS_any l0 _ _ _ 1048576 _ HN.out (by omega) hm9 hok hat).mono ?_
  rintro e w1 ⟨⟨r, rfl, hr⟩, rfl⟩
  by_cases hr0 : r < 0
  · clear hr
    go_wp2
    go_ret
    exact ⟨rfl, Below.refl _ _⟩
  · have hsz : n0 + totalS l0 ≤ 1048576 := by have := hr.resolve_left hr0; omega
    have hn9 : n0 ≤ 1048576 := by omega
    clear hr
    go_wp2_with fail
    refine (toStringS_any l0 _ _ _ _ HN.out hn9 hat).mono ?_
    rintro e w1 ⟨a1, rfl, o1⟩
    go_wp2_with fail
    refine (specJoined_any l0 _ _ _ _ HN.out hsz o1.at_).mono ?_
    rintro e w2 ⟨rfl, rfl⟩
    go_wp2_with fail
    refine (toStringS_any l0 _ _ _ _ HN.out hn9 (hat.below o1.below)).mono ?_
    rintro e w2 ⟨a2, rfl, o2⟩
    have b2 := o1.below.trans (o2.below.mono o1.base)
    clear o1
    go_wp2_with fail
    refine (implJoined_any l0 _ _ _ _ HN.out hsz o2.at_).mono ?_
    rintro e w3 ⟨rfl, b3⟩
    have o23 := o2.later b3
    have b23 := b2.trans (b3.mono b2.size)
    clear o2 b2 b3
    go_wp2_with fail
    refine (toStringS_any l0 _ _ _ _ HN.out hn9 (hat.below b23)).mono ?_
    rintro e w4 ⟨a4, rfl, o4⟩
    have o24 := o23.later o4.below
    have b4 := b23.trans (o4.below.mono b23.size)
    clear o23 b23
    go_wp2_with fail
    refine (eqStringS_same _ _ _ _ _ l0 _ HN.out (by omega) o24.at_ o4.at_).mono ?_
    rintro e w5 ⟨rfl, q, rfl⟩
    go_wp2
    go_ret
    exact ⟨rfl, below_drewN' b4 q⟩

theorem specTextsOf_n (l : List WordM) (a : Option Addr) (n c : Nat) (w : World) (hn : n = l.length) (hl : n ≤ 1048576) (hat : CellsAt w a (wordsC l)) :
    Calls Try.prog 15 #[.slice a n c] w fun e w' => ∃ a' n' c', e = .returned (.slice a' n' c') ∧ One w w.heap.size w' 9 1 a' n' c' (strsC (textsM l)) :=
  (specTextsOf_any l a n c w hn hl hat).mono fun _ _ ⟨a', c', h⟩ => ⟨a', n, c', h⟩
theorem implTextsOf_n (l : List WordM) (a : Option Addr) (n c : Nat) (w : World) (hn : n = l.length) (hl : n ≤ 1048576) (hat : CellsAt w a (wordsC l)) :
    Calls Try.prog 17 #[.slice a n c] w fun e w' => ∃ a' n' c', e = .returned (.slice a' n' c') ∧ One w w.heap.size w' 9 1 a' n' c' (strsC (textsM l)) :=
  (implTextsOf_any l a n c w hn hl hat).mono fun _ _ ⟨a', c', h⟩ => ⟨a', n, c', h⟩

set_option maxHeartbeats 8000000 in
theorem walkFnExactTextsOf (a0 : Option Addr) (n0 c0 : Nat) (l0 : List (WordM)) (w : World) (wi0 : n0 = l0.length ∧ n0 ≤ c0 ∧ c0 ≤ maxLen ∧ (∀ x ∈ l0, x.text.size ≤ maxLen ∧ (Lit.int .i64 x.fr).wf = true ∧ (Lit.int .i64 x.to).wf = true) ∧ CellsAt w a0 (wordsC l0)) :
    Calls Try.prog 4 #[.slice a0 n0 c0] w fun e w' => e = .returned (.bool true) ∧ Below w.heap.size w w' := by
  obtain ⟨hn0, hc0, hx0, hok0, hat0⟩ := wi0
  have HN0 := Lib.hid hn0
  have hm0 : n0 ≤ maxLen := Nat.le_trans hc0 hx0
  have hoz0 : ∀ x ∈ l0, x.text.size ≤ maxLen := fun x hx => (hok0 x hx).1
  clear hn0 hc0 hx0
  obtain ⟨w0, HW⟩ : ∃ w0, Hid (w = w0) := ⟨_, Lib.hid rfl⟩
  have B0 : Below w0.heap.size w0 w0 := Below.refl _ _
  rw [HW.out] at hat0 ⊢
  clear HW
  go_enter Try.func4, Try.ntmps4
  go_wp2_with fail
  refine (szWordS_any l0 _ _ _ 1048576 _ HN0.out (by omega) hm0 hoz0 (hat0.below B0)).mono ?_
  rintro e w1 ⟨⟨r0, rfl, hr0⟩, e1⟩
  have s1 := e1.size
  have B1 := B0.trans (e1.mono B0.size)
  clear e1 B0
  by_cases hz0 : r0 < 0
  · clear hr0
    go_wp2
    go_ret
    exact ⟨rfl, B1⟩
  have hq0 := hr0.resolve_left hz0
  clear hr0
  have hn9_0 : n0 ≤ 1048576 := by omega
  have HL := Lib.hid (textsM_len l0)
  go_wp2_with fail
  refine (toWordS_any l0 _ _ _ _ HN0.out hn9_0 (hat0.below B1)).mono ?_
  rintro e w2 ⟨b2, rfl, o2⟩
  have e2 := o2.below
  have s2 := e2.size
  have B2 := B1.trans (e2.mono B1.size)
  clear e2 B1 
  have x0_2 := o2.row
  clear o2
  go_wp2_with fail
  refine (specTextsOf_n l0 _ _ _ _ HN0.out hn9_0 x0_2.at_).mono ?_
  rintro e w3 ⟨b3, n_u0, c3, rfl, o3⟩
  have e3 := o3.below
  have s3 := e3.size
  have B3 := B2.trans (e3.mono B2.size)
  have x0_3 := x0_2.later e3
  clear e3 B2 x0_2
  have u0_3 := o3.row
  clear o3
  have hu0 : n_u0 = (textsM l0).length := strs_len u0_3.own
  have HU0 := Lib.hid hu0
  have hv0 : n_u0 ≤ 4194304 := by rw [hu0]; rw [HL.out, ← HN0.out]; omega
  clear hu0
  clear x0_3
  go_wp2_with fail
  refine (toWordS_any l0 _ _ _ _ HN0.out hn9_0 (hat0.below B3)).mono ?_
  rintro e w4 ⟨b4, rfl, o4⟩
  have e4 := o4.below
  have s4 := e4.size
  have B4 := B3.trans (e4.mono B3.size)
  have u0_4 := u0_3.later e4
  clear e4 B3 u0_3
  have y0_4 := o4.row
  clear o4
  go_wp2_with fail
  refine (implTextsOf_n l0 _ _ _ _ HN0.out hn9_0 y0_4.at_).mono ?_
  rintro e w5 ⟨b5, n_g0, c5, rfl, o5⟩
  have e5 := o5.below
  have s5 := e5.size
  have B5 := B4.trans (e5.mono B4.size)
  have u0_5 := u0_4.later e5
  have y0_5 := y0_4.later e5
  clear e5 B4 u0_4 y0_4
  have g0_5 := o5.row
  clear o5
  obtain rfl : n_u0 = n_g0 := HU0.out.trans (show n_g0 = (textsM l0).length from strs_len g0_5.own).symm
  go_wp2_with fail
  refine (eqStringS_b _ _ _ _ _ (textsM l0) _ HU0.out (by omega) g0_5.at_ u0_5.at_).mono ?_
  rintro e w6 ⟨rfl, f6⟩
  have e6 := f6
  have s6 := e6.size
  have B6 := B5.trans (e6.mono B5.size)
  have u0_6 := u0_5.later e6
  have y0_6 := y0_5.later e6
  have g0_6 := g0_5.later e6
  clear e6 B5 u0_5 y0_5 g0_5 f6
  go_wp2_with fail
  refine (toWordS_any l0 _ _ _ _ HN0.out hn9_0 (hat0.below B6)).mono ?_
  rintro e w7 ⟨b7, rfl, o7⟩
  have e7 := o7.below
  have s7 := e7.size
  have B7 := B6.trans (e7.mono B6.size)
  have u0_7 := u0_6.later e7
  have y0_7 := y0_6.later e7
  have g0_7 := g0_6.later e7
  clear e7 B6 u0_6 y0_6 g0_6
  have z0_7 := o7.row
  clear o7
  go_wp2_with fail
  refine (eqWordS_same _ _ _ _ _ l0 _ HN0.out (by omega) y0_7.at_ z0_7.at_).mono ?_
  rintro e w8 ⟨rfl, f8⟩
  have e8 := f8
  have s8 := e8.size
  have B8 := B7.trans (e8.mono B7.size)
  have u0_8 := u0_7.later e8
  have y0_8 := y0_7.later e8
  have g0_8 := g0_7.later e8
  have z0_8 := z0_7.later e8
  clear e8 B7 u0_7 y0_7 g0_7 z0_7 f8
  clear z0_8
  go_wp2_with fail
  refine (markWordS_z _ _ _ _ l0 _ (1) _ y0_8.own (by omega) (by omega) (by omega) (by omega)).mono ?_
  rintro e w9 ⟨rfl, k9, g9⟩
  have s9 := g9.size
  have B9 := y0_8.below B8 g9 (by omega) B8.size
  have u0_9 := u0_8.kept y0_8 g9 (by omega)
  have y0_9 := y0_8.written k9 g9
  have g0_9 := g0_8.kept y0_8 g9 (by omega)
  clear k9 g9 B8 u0_8 y0_8 g0_8
  have tk : ¬ ((1 + n0 * 3 : Nat) : Int) < 0 := by omega
  go_wp2_with fail
  refine (eqStringS_b _ _ _ _ _ (textsM l0) _ HU0.out (by omega) g0_9.at_ u0_9.at_).mono ?_
  rintro e w10 ⟨rfl, f10⟩
  have e10 := f10
  have s10 := e10.size
  have B10 := B9.trans (e10.mono B9.size)
  have u0_10 := u0_9.later e10
  have y0_10 := y0_9.later e10
  have g0_10 := g0_9.later e10
  clear e10 B9 u0_9 y0_9 g0_9 f10
  clear y0_10
  go_wp2_with fail
  refine (markStringS_z _ _ _ _ (textsM l0) _ (1) _ g0_10.own (by omega) (by omega) (by omega) (by omega)).mono ?_
  rintro e w11 ⟨rfl, k11, g11⟩
  have s11 := g11.size
  have B11 := g0_10.below B10 g11 (by omega) B10.size
  have u0_11 := u0_10.kept g0_10 g11 (by omega)
  have g0_11 := g0_10.written k11 g11
  clear k11 g11 B10 u0_10 g0_10
  go_wp2_with fail
  refine (heldStringS_z _ _ _ _ (1) _ g0_11.at_ (by omega) (by omega) (by omega) (by omega)).mono ?_
  rintro e w12 ⟨rfl, f12⟩
  have e12 := f12
  have s12 := e12.size
  have B12 := B11.trans (e12.mono B11.size)
  have u0_12 := u0_11.later e12
  have g0_12 := g0_11.later e12
  clear e12 B11 u0_11 g0_11 f12
  have tq0_12 : ¬ ((1 + n_u0 * 1 : Nat) : Int) < 0 := by omega
  go_wp2_with fail
  refine (toWordS_any l0 _ _ _ _ HN0.out hn9_0 (hat0.below B12)).mono ?_
  rintro e w13 ⟨b13, rfl, o13⟩
  have e13 := o13.below
  have s13 := e13.size
  have B13 := B12.trans (e13.mono B12.size)
  have u0_13 := u0_12.later e13
  have g0_13 := g0_12.later e13
  clear e13 B12 u0_12 g0_12
  have v0_13 := o13.row
  clear o13
  go_wp2_with fail
  refine (implTextsOf_n l0 _ _ _ _ HN0.out hn9_0 v0_13.at_).mono ?_
  rintro e w14 ⟨b14, n_h0, c14, rfl, o14⟩
  have e14 := o14.below
  have s14 := e14.size
  have B14 := B13.trans (e14.mono B13.size)
  have u0_14 := u0_13.later e14
  have g0_14 := g0_13.later e14
  have v0_14 := v0_13.later e14
  clear e14 B13 u0_13 g0_13 v0_13
  have h0_14 := o14.row
  clear o14
  obtain rfl : n_u0 = n_h0 := HU0.out.trans (show n_h0 = (textsM l0).length from strs_len h0_14.own).symm
  clear v0_14
  go_wp2_with fail
  refine (eqStringS_b _ _ _ _ _ (textsM l0) _ HU0.out (by omega) h0_14.at_ u0_14.at_).mono ?_
  rintro e w15 ⟨rfl, f15⟩
  have e15 := f15
  have s15 := e15.size
  have B15 := B14.trans (e15.mono B14.size)
  have u0_15 := u0_14.later e15
  have g0_15 := g0_14.later e15
  have h0_15 := h0_14.later e15
  clear e15 B14 u0_14 g0_14 h0_14 f15
  go_wp2_with fail
  refine (heldStringS_z _ _ _ _ (1) _ g0_15.at_ (by omega) (by omega) (by omega) (by omega)).mono ?_
  rintro e w16 ⟨rfl, f16⟩
  have e16 := f16
  have s16 := e16.size
  have B16 := B15.trans (e16.mono B15.size)
  have u0_16 := u0_15.later e16
  have g0_16 := g0_15.later e16
  have h0_16 := h0_15.later e16
  clear e16 B15 u0_15 g0_15 h0_15 f16
  have tq0_16 : ¬ ((1 + n_u0 * 1 : Nat) : Int) < 0 := by omega
  go_wp2
  go_ret
  exact ⟨rfl, B16⟩

end Go.Proofs.Ytgbmmdcelonahaa
