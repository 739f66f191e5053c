/-
  The walks of chapter 7's exact laws: each returns true, and nothing that was there is written. No conditions. (Written by wip/tools/ch7_exact.py.)
-/
import Derived.Test.YtddohldccglcmaaPieceL
import Derived.Test.YtddohldccglcmaaPieceE
import Derived.Test.YtddohldccglcmaaPieceT
import Derived.Test.YtddohldccglcmaaHelpN
import Derived.Test.YtddohldccglcmaaHelpPiece
namespace Go.Proofs.Ytddohldccglcmaa
open Go.RowKit

theorem wf_bounds7 {n : Int} (h : (Lit.int .i64 n).wf = true) : -9223372036854775808 ≤ n ∧ n ≤ 9223372036854775807 := by
  simp [Lit.wf, IntKind.min, IntKind.max, IntKind.signed, IntKind.bits] at h
  omega
theorem some_bool (P : Prop) : ∃ r : Bool, r = true ↔ P := by
  by_cases h : P
  · exact ⟨true, fun _ => h, fun _ => rfl⟩
  · exact ⟨false, (fun e => absurd e (by decide)), (fun e => absurd e h)⟩

set_option maxHeartbeats 4000000 in
theorem walkFnExactPieceOk (a0 a1 : ByteArray) (x y z : Int) (w : World) (_wi0 : a0.size ≤ maxLen) (_wi1 : a1.size ≤ maxLen) (wx : (Lit.int .i64 x).wf = true) (wy : (Lit.int .i64 y).wf = true) (_wz : (Lit.int .i64 z).wf = true) :
    Calls Try.prog 3 #[.string a0, .string a1, .agg #[.int .i64 x, .int .i64 y, .int .i64 z]] w fun e w' => e = .returned (.bool true) ∧ Below w.heap.size w w' := by
  by_cases hs0 : 1048576 < a0.size
  · have hb0 : (1048576 : Int) < (a0.size : Int) := by omega
    go_enter Try.func3, Try.ntmps3
    go_wp2
    go_ret
    exact ⟨rfl, (Below.refl _ _).alloc (Nat.le_refl _) _⟩
  by_cases hs1 : 1048576 < a1.size
  · have hb1 : (1048576 : Int) < (a1.size : Int) := by omega
    go_enter Try.func3, Try.ntmps3
    go_wp2
    go_ret
    exact ⟨rfl, (Below.refl _ _).alloc (Nat.le_refl _) _⟩
  obtain ⟨r, hr⟩ := some_bool (okP a0 a1 (x, y, z))
  have c1 := fun w => specPieceOk_is r a0 a1 x y z w hr (by omega) (by omega)
  have c2 := fun w => implPieceOk_is r a0 a1 x y z w hr (wf_bounds7 wx).2 (wf_bounds7 wy).2 (by omega) (by omega)
  have t1 : (r == r) = true := beq_self_eq_true _
  have t2 : (r != r) = false := by rw [bne, t1]; rfl
  clear hr
  go_enter Try.func3, Try.ntmps3
  go_wp2_with fail
  have S1 := Side.fresh (w := w) (B := w.heap.size) (v := .slice none 0 0) 23 [.int .i64 x, .int .i64 y, .int .i64 z] (Nat.le_refl _) (by intro k hk; simp [Value.ownBlock] at hk)
  have B1 := (Below.refl w.heap.size w).alloc (Nat.le_refl _) (.cells #[.int .i64 x, .int .i64 y, .int .i64 z] 23)
  refine (toPiece_any _ _ _ _).mono ?_
  rintro e w2 ⟨rfl, b2⟩
  have S2 := S1.later b2
  have B2 := B1.trans (b2.mono B1.size)
  obtain ⟨gx, hgx⟩ : ∃ g, w.heap.size = g := ⟨_, rfl⟩
  have S2 : Side w2 w.heap.size (.slice none 0 0) 23 gx [.int .i64 x, .int .i64 y, .int .i64 z] := hgx ▸ S2
  rw [hgx]
  clear b2 B1 S1 hgx
  go_wp2_with fail
  refine (c1 _).mono ?_
  rintro e w3 ⟨rfl, b3⟩
  have S3 := S2.later b3
  have B3 := B2.trans (b3.mono B2.size)
  clear b3 B2 S2 c1
  have k1 := S3.cell 0 _ rfl
  have k2 := S3.cell 1 _ rfl
  have k3 := S3.cell 2 _ rfl
  go_wp2_with fail
  refine (toPiece_any _ _ _ _).mono ?_
  rintro e w4 ⟨rfl, b4⟩
  have B4 := B3.trans (b4.mono B3.size)
  clear b4 B3 S3 k1 k2 k3
  go_wp2_with fail
  refine (c2 _).mono ?_
  rintro e w5 ⟨rfl, b5⟩
  go_wp2
  go_ret
  exact ⟨rfl, B4.trans (b5.mono B4.size)⟩

set_option maxHeartbeats 4000000 in
theorem walkFnExactPieceHas (x y z a1 a2 a3 : Int) (w : World) (wx : (Lit.int .i64 x).wf = true) (wy : (Lit.int .i64 y).wf = true) (wz : (Lit.int .i64 z).wf = true) (wi1 : (Lit.int .i64 a1).wf = true) (wi2 : (Lit.int .i64 a2).wf = true) (_wi3 : (Lit.int .i64 a3).wf = true) :
    Calls Try.prog 6 #[.agg #[.int .i64 x, .int .i64 y, .int .i64 z], .int .i64 a1, .int .i64 a2, .int .i64 a3] w fun e w' => e = .returned (.bool true) ∧ Below w.heap.size w w' := by
  obtain ⟨r, hr⟩ := some_bool (hasP (x, y, z) a1 a2 a3)
  have c1 := fun w => specHas_is r x y z a1 a2 a3 w hr (wf_bounds7 wx).2 (wf_bounds7 wy).2 (wf_bounds7 wz).2 (wf_bounds7 wi1).2 (wf_bounds7 wi2).2
  have c2 := fun w => implHas_is r x y z a1 a2 a3 w hr (wf_bounds7 wx).2 (wf_bounds7 wy).2 (wf_bounds7 wz).2 (wf_bounds7 wi1).2 (wf_bounds7 wi2).2
  have t1 : (r == r) = true := beq_self_eq_true _
  have t2 : (r != r) = false := by rw [bne, t1]; rfl
  clear hr
  go_enter Try.func6, Try.ntmps6
  go_wp2_with fail
  have S1 := Side.fresh (w := w) (B := w.heap.size) (v := .slice none 0 0) 23 [.int .i64 x, .int .i64 y, .int .i64 z] (Nat.le_refl _) (by intro k hk; simp [Value.ownBlock] at hk)
  have B1 := (Below.refl w.heap.size w).alloc (Nat.le_refl _) (.cells #[.int .i64 x, .int .i64 y, .int .i64 z] 23)
  refine (toPiece_any _ _ _ _).mono ?_
  rintro e w2 ⟨rfl, b2⟩
  have S2 := S1.later b2
  have B2 := B1.trans (b2.mono B1.size)
  obtain ⟨gx, hgx⟩ : ∃ g, w.heap.size = g := ⟨_, rfl⟩
  have S2 : Side w2 w.heap.size (.slice none 0 0) 23 gx [.int .i64 x, .int .i64 y, .int .i64 z] := hgx ▸ S2
  rw [hgx]
  clear b2 B1 S1 hgx
  go_wp2_with fail
  refine (c1 _).mono ?_
  rintro e w3 ⟨rfl, b3⟩
  have S3 := S2.later b3
  have B3 := B2.trans (b3.mono B2.size)
  clear b3 B2 S2 c1
  have k1 := S3.cell 0 _ rfl
  have k2 := S3.cell 1 _ rfl
  have k3 := S3.cell 2 _ rfl
  go_wp2_with fail
  refine (toPiece_any _ _ _ _).mono ?_
  rintro e w4 ⟨rfl, b4⟩
  have B4 := B3.trans (b4.mono B3.size)
  clear b4 B3 S3 k1 k2 k3
  go_wp2_with fail
  refine (c2 _).mono ?_
  rintro e w5 ⟨rfl, b5⟩
  go_wp2
  go_ret
  exact ⟨rfl, B4.trans (b5.mono B4.size)⟩

set_option maxHeartbeats 4000000 in
theorem walkFnExactGrowPiece (a0 a1 : ByteArray) (a2 a3 : Int) (w : World) (_wi0 : a0.size ≤ maxLen) (_wi1 : a1.size ≤ maxLen) (wi2 : (Lit.int .i64 a2).wf = true) (wi3 : (Lit.int .i64 a3).wf = true) :
    Calls Try.prog 4 #[.string a0, .string a1, .int .i64 a2, .int .i64 a3] w fun e w' => e = .returned (.bool true) ∧ Below w.heap.size w w' := by
  by_cases hs0 : 1048576 < a0.size
  · have hb0 : (1048576 : Int) < (a0.size : Int) := by omega
    go_enter Try.func4, Try.ntmps4
    go_wp2
    go_ret
    exact ⟨rfl, Below.refl _ _⟩
  by_cases hs1 : 1048576 < a1.size
  · have hb1 : (1048576 : Int) < (a1.size : Int) := by omega
    go_enter Try.func4, Try.ntmps4
    go_wp2
    go_ret
    exact ⟨rfl, Below.refl _ _⟩
  obtain ⟨⟨⟨x, y, z⟩, b⟩, hR⟩ : ∃ R, growT a0 a1 a2 a3 = R := ⟨_, rfl⟩
  have c1 := fun w => specGrow_any a0 a1 a2 a3 x y z b w hR (by omega) (by omega)
  have c2 := fun w => implGrow_any a0 a1 a2 a3 x y z b w hR (wf_bounds7 wi2).2 (wf_bounds7 wi3).2 (by omega) (by omega)
  have tb : (b != b) = false := by simp
  clear hR
  go_enter Try.func4, Try.ntmps4
  go_wp2_with fail
  refine (c1 _).mono ?_
  rintro e w1 ⟨rfl, b1⟩
  have S1 := Side.fresh (w := w1) (B := w.heap.size) (v := .slice none 0 0) 25 [.int .i64 x, .int .i64 y, .int .i64 z] b1.size (by intro k hk; simp [Value.ownBlock] at hk)
  have B1 := b1.alloc b1.size (.cells #[.int .i64 x, .int .i64 y, .int .i64 z] 25)
  clear b1 c1
  go_wp2_with fail
  refine (c2 _).mono ?_
  rintro e w2 ⟨rfl, b2⟩
  have S2 := S1.later b2
  have B2 := B1.trans (b2.mono B1.size)
  obtain ⟨gx, hgx⟩ : ∃ g, w1.heap.size = g := ⟨_, rfl⟩
  have S2 : Side w2 w.heap.size (.slice none 0 0) 25 gx [.int .i64 x, .int .i64 y, .int .i64 z] := hgx ▸ S2
  rw [hgx]
  clear b2 B1 S1 hgx c2
  have ha := (Below.refl w2.heap.size w2).alloc (Nat.le_refl _) (.cells #[.int .i64 x, .int .i64 y, .int .i64 z] 25)
  have S3 := S2.later ha
  have B3 := B2.trans (ha.mono B2.size)
  have k1 := S3.cell 0 _ rfl
  have k2 := S3.cell 1 _ rfl
  have k3 := S3.cell 2 _ rfl
  clear ha B2 S2
  go_wp2_with fail
  refine (eqPiece_same _ _ _ _).mono ?_
  rintro e w4 ⟨rfl, b4⟩
  go_wp2
  go_ret
  exact ⟨rfl, B3.trans (b4.mono B3.size)⟩

set_option maxHeartbeats 4000000 in
theorem walkFnExactLongestPiece (a0 a1 : ByteArray) (w : World) (_wi0 : a0.size ≤ maxLen) (_wi1 : a1.size ≤ maxLen) :
    Calls Try.prog 7 #[.string a0, .string a1] w fun e w' => e = .returned (.bool true) ∧ Below w.heap.size w w' := by
  by_cases hs0 : 1048576 < a0.size
  · have hb0 : (1048576 : Int) < (a0.size : Int) := by omega
    go_enter Try.func7, Try.ntmps7
    go_wp2
    go_ret
    exact ⟨rfl, Below.refl _ _⟩
  by_cases hs1 : 1048576 < a1.size
  · have hb1 : (1048576 : Int) < (a1.size : Int) := by omega
    go_enter Try.func7, Try.ntmps7
    go_wp2
    go_ret
    exact ⟨rfl, Below.refl _ _⟩
  obtain ⟨⟨x, y, z⟩, hR⟩ : ∃ R, longT a0 a1 = R := ⟨_, rfl⟩
  have c1 := fun w => specLongest_any a0 a1 x y z w hR (by omega) (by omega)
  have c2 := fun w => implLongest_any a0 a1 x y z w hR (by omega) (by omega)
  clear hR
  go_enter Try.func7, Try.ntmps7
  go_wp2_with fail
  refine (c1 _).mono ?_
  rintro e w1 ⟨rfl, b1⟩
  have S1 := Side.fresh (w := w1) (B := w.heap.size) (v := .slice none 0 0) 25 [.int .i64 x, .int .i64 y, .int .i64 z] b1.size (by intro k hk; simp [Value.ownBlock] at hk)
  have B1 := b1.alloc b1.size (.cells #[.int .i64 x, .int .i64 y, .int .i64 z] 25)
  clear b1 c1
  go_wp2_with fail
  refine (c2 _).mono ?_
  rintro e w2 ⟨rfl, b2⟩
  have S2 := S1.later b2
  have B2 := B1.trans (b2.mono B1.size)
  obtain ⟨gx, hgx⟩ : ∃ g, w1.heap.size = g := ⟨_, rfl⟩
  have S2 : Side w2 w.heap.size (.slice none 0 0) 25 gx [.int .i64 x, .int .i64 y, .int .i64 z] := hgx ▸ S2
  rw [hgx]
  clear b2 B1 S1 hgx c2
  have ha := (Below.refl w2.heap.size w2).alloc (Nat.le_refl _) (.cells #[.int .i64 x, .int .i64 y, .int .i64 z] 25)
  have S3 := S2.later ha
  have B3 := B2.trans (ha.mono B2.size)
  have k1 := S3.cell 0 _ rfl
  have k2 := S3.cell 1 _ rfl
  have k3 := S3.cell 2 _ rfl
  clear ha B2 S2
  go_wp2_with fail
  refine (eqPiece_same _ _ _ _).mono ?_
  rintro e w4 ⟨rfl, b4⟩
  go_wp2
  go_ret
  exact ⟨rfl, B3.trans (b4.mono B3.size)⟩

theorem specPieces_w (s t : ByteArray) (n : Int) (R : List En) (w : World) (h : piecesT s t n = R) (hs : s.size ≤ 1048576) (ht : t.size ≤ 1048576) :
    Calls Try.prog 15 #[.string s, .string t, .int .i64 n] w fun e w' => ∃ a m c, e = .returned (.slice a m c) ∧ One w w.heap.size w' 25 3 a m c (entsC R) := by
  refine (specPieces_any s t n R w h hs ht).mono ?_
  rintro e w2 ⟨g, m, c, h1, h2⟩
  exact ⟨_, m, c, h1, h2⟩

set_option maxHeartbeats 8000000 in
theorem walkFnExactPiecesOf (a0 : ByteArray) (a1 : ByteArray) (a2 : Int) (w : World) (_wi0 : a0.size ≤ maxLen) (_wi1 : a1.size ≤ maxLen) (wi2 : (Lit.int .i64 a2).wf = true) :
    Calls Try.prog 5 #[.string a0, .string a1, .int .i64 a2] w fun e w' => e = .returned (.bool true) ∧ Below w.heap.size w w' := by
  obtain ⟨w0, HW⟩ : ∃ w0, Hid (w = w0) := ⟨_, Lib.hid rfl⟩
  have B0 : Below w0.heap.size w0 w0 := Below.refl _ _
  rw [HW.out]
  clear HW
  by_cases hs0 : 1048576 < a0.size
  · have hb0 : (1048576 : Int) < (a0.size : Int) := by omega
    go_enter Try.func5, Try.ntmps5
    go_wp2
    go_ret
    exact ⟨rfl, B0⟩
  by_cases hs1 : 1048576 < a1.size
  · have hb1 : (1048576 : Int) < (a1.size : Int) := by omega
    go_enter Try.func5, Try.ntmps5
    go_wp2
    go_ret
    exact ⟨rfl, B0⟩
  go_enter Try.func5, Try.ntmps5
  have hs9 : a0.size ≤ 1048576 := by omega
  have ht9 : a1.size ≤ 1048576 := by omega
  have hv9 := (wf_bounds7 wi2).2
  obtain ⟨R, hR⟩ : ∃ R, piecesT a0 a1 a2 = R := ⟨_, rfl⟩
  have HR := Lib.hid hR
  have HM := Lib.hid (show R.length ≤ 1099511627776 by rw [← hR]; exact piecesT_room a2 hs9 ht9)
  clear hR
  go_wp2_with fail
  refine (specPieces_w a0 a1 a2 R _ HR.out hs9 ht9).mono ?_
  rintro e w1 ⟨b1, n_u0, c1, rfl, o1⟩
  have e1 := o1.below
  have s1 := e1.size
  have B1 := B0.trans (e1.mono B0.size)
  clear e1 B0 
  have u0_1 := o1.row
  clear o1
  have hu0 : n_u0 = (R).length := by have h := u0_1.own.1; rw [entsC, flat_len entC 3 lenPiece] at h; omega
  have HU0 := Lib.hid hu0
  have hv0 : n_u0 ≤ 1099511627776 := by rw [hu0]; exact HM.out
  clear hu0
  go_wp2_with fail
  refine (implPieces_any a0 a1 a2 R _ HR.out hv9 hs9 ht9).mono ?_
  rintro e w2 ⟨b2, n_g0, c2, rfl, o2⟩
  have e2 := o2.below
  have s2 := e2.size
  have B2 := B1.trans (e2.mono B1.size)
  have u0_2 := u0_1.later e2
  clear e2 B1 u0_1
  have g0_2 := o2.row
  clear o2
  obtain rfl : n_u0 = n_g0 := HU0.out.trans (show n_g0 = (R).length from by have h := g0_2.own.1; rw [entsC, flat_len entC 3 lenPiece] at h; omega).symm
  go_wp2_with fail
  refine (eqPieceS_same _ _ _ _ _ (R) _ HU0.out (by omega) g0_2.at_ u0_2.at_).mono ?_
  rintro e w3 ⟨rfl, f3⟩
  have e3 := f3
  have s3 := e3.size
  have B3 := B2.trans (e3.mono B2.size)
  have u0_3 := u0_2.later e3
  have g0_3 := g0_2.later e3
  clear e3 B2 u0_2 g0_2 f3
  go_wp2_with fail
  refine (markPieceS_z _ _ _ _ (R) _ (1) _ g0_3.own (by omega) (by omega) (by omega) (by omega)).mono ?_
  rintro e w4 ⟨rfl, k4, g4⟩
  have s4 := g4.size
  have B4 := g0_3.below B3 g4 (by omega) B3.size
  have u0_4 := u0_3.kept g0_3 g4 (by omega)
  have g0_4 := g0_3.written k4 g4
  clear k4 g4 B3 u0_3 g0_3
  go_wp2_with fail
  refine (heldPieceS_z _ _ _ _ (1) _ g0_4.at_ (by omega) (by omega) (by omega) (by omega)).mono ?_
  rintro e w5 ⟨rfl, f5⟩
  have e5 := f5
  have s5 := e5.size
  have B5 := B4.trans (e5.mono B4.size)
  have u0_5 := u0_4.later e5
  have g0_5 := g0_4.later e5
  clear e5 B4 u0_4 g0_4 f5
  have tq0_5 : ¬ ((1 + n_u0 * 3 : Nat) : Int) < 0 := by omega
  go_wp2_with fail
  refine (implPieces_any a0 a1 a2 R _ HR.out hv9 hs9 ht9).mono ?_
  rintro e w6 ⟨b6, n_h0, c6, rfl, o6⟩
  have e6 := o6.below
  have s6 := e6.size
  have B6 := B5.trans (e6.mono B5.size)
  have u0_6 := u0_5.later e6
  have g0_6 := g0_5.later e6
  clear e6 B5 u0_5 g0_5
  have h0_6 := o6.row
  clear o6
  obtain rfl : n_u0 = n_h0 := HU0.out.trans (show n_h0 = (R).length from by have h := h0_6.own.1; rw [entsC, flat_len entC 3 lenPiece] at h; omega).symm
  go_wp2_with fail
  refine (eqPieceS_same _ _ _ _ _ (R) _ HU0.out (by omega) h0_6.at_ u0_6.at_).mono ?_
  rintro e w7 ⟨rfl, f7⟩
  have e7 := f7
  have s7 := e7.size
  have B7 := B6.trans (e7.mono B6.size)
  have u0_7 := u0_6.later e7
  have g0_7 := g0_6.later e7
  have h0_7 := h0_6.later e7
  clear e7 B6 u0_6 g0_6 h0_6 f7
  go_wp2_with fail
  refine (heldPieceS_z _ _ _ _ (1) _ g0_7.at_ (by omega) (by omega) (by omega) (by omega)).mono ?_
  rintro e w8 ⟨rfl, f8⟩
  have e8 := f8
  have s8 := e8.size
  have B8 := B7.trans (e8.mono B7.size)
  have u0_8 := u0_7.later e8
  have g0_8 := g0_7.later e8
  have h0_8 := h0_7.later e8
  clear e8 B7 u0_7 g0_7 h0_7 f8
  have tq0_8 : ¬ ((1 + n_u0 * 3 : Nat) : Int) < 0 := by omega
  go_wp2
  go_ret
  exact ⟨rfl, B8⟩

set_option maxHeartbeats 8000000 in
theorem walkFnExactTurnedPieces (a0 : Option Addr) (n0 c0 : Nat) (l0 : List (En)) (w : World) (wi0 : n0 = l0.length ∧ n0 ≤ c0 ∧ c0 ≤ maxLen ∧ (∀ x ∈ l0, (Lit.int .i64 x.1).wf = true ∧ (Lit.int .i64 x.2.1).wf = true ∧ (Lit.int .i64 x.2.2).wf = true) ∧ CellsAt w a0 (entsC l0)) :
    Calls Try.prog 8 #[.slice a0 n0 c0] w fun e w' => e = .returned (.bool true) ∧ Below w.heap.size w w' := by
  obtain ⟨hn0, hc0, hx0, hok0, hat0⟩ := wi0
  have HN0 := Lib.hid hn0
  have hm0 : n0 ≤ maxLen := Nat.le_trans hc0 hx0
  clear hn0 hc0 hx0
  obtain ⟨w0, HW⟩ : ∃ w0, Hid (w = w0) := ⟨_, Lib.hid rfl⟩
  have B0 : Below w0.heap.size w0 w0 := Below.refl _ _
  rw [HW.out] at hat0 ⊢
  clear HW
  go_enter Try.func8, Try.ntmps8
  go_wp2_with fail
  refine (szPieceS_any _ _ _ 1048576 _ (by omega) hm0).mono ?_
  rintro e w1 ⟨⟨r0, rfl, hr0⟩, rfl⟩
  by_cases hz0 : r0 < 0
  · clear hr0
    go_wp2
    go_ret
    exact ⟨rfl, B0⟩
  have hq0 := hr0.resolve_left hz0
  clear hr0
  obtain ⟨r0, rfl⟩ : ∃ r : Nat, r0 = r := ⟨r0.toNat, by omega⟩
  have hp0 : n0 + r0 ≤ 1048576 := by omega
  clear hq0 hz0
  have hn9_0 : n0 ≤ 1048576 := by omega
  have HM := Lib.hid (show (turnL l0).length ≤ n0 by rw [HN0.out]; exact turnL_len _)
  go_wp2_with fail
  refine (toPieceS_any l0 _ _ _ _ HN0.out hn9_0 (hat0.below B0)).mono ?_
  rintro e w1 ⟨b1, rfl, o1⟩
  have e1 := o1.below
  have s1 := e1.size
  have B1 := B0.trans (e1.mono B0.size)
  clear e1 B0 
  have x0_1 := o1.row
  clear o1
  go_wp2_with fail
  refine (specTurned_any l0 _ _ _ _ HN0.out (by omega) x0_1.at_).mono ?_
  rintro e w2 ⟨b2, n_u0, c2, rfl, o2⟩
  have e2 := o2.below
  have s2 := e2.size
  have B2 := B1.trans (e2.mono B1.size)
  have x0_2 := x0_1.later e2
  clear e2 B1 x0_1
  have u0_2 := o2.row
  clear o2
  have hu0 : n_u0 = (turnL l0).length := by have h := u0_2.own.1; rw [entsC, flat_len entC 3 lenPiece] at h; omega
  have HU0 := Lib.hid hu0
  have hv0 : n_u0 ≤ 4194304 := by rw [hu0]; have := HM.out; omega
  clear hu0
  clear x0_2
  go_wp2_with fail
  refine (toPieceS_any l0 _ _ _ _ HN0.out hn9_0 (hat0.below B2)).mono ?_
  rintro e w3 ⟨b3, rfl, o3⟩
  have e3 := o3.below
  have s3 := e3.size
  have B3 := B2.trans (e3.mono B2.size)
  have u0_3 := u0_2.later e3
  clear e3 B2 u0_2
  have y0_3 := o3.row
  clear o3
  go_wp2_with fail
  refine (implTurned_any l0 _ _ _ _ HN0.out (by omega) y0_3.at_).mono ?_
  rintro e w4 ⟨b4, n_g0, c4, rfl, o4⟩
  have e4 := o4.below
  have s4 := e4.size
  have B4 := B3.trans (e4.mono B3.size)
  have u0_4 := u0_3.later e4
  have y0_4 := y0_3.later e4
  clear e4 B3 u0_3 y0_3
  have g0_4 := o4.row
  clear o4
  obtain rfl : n_u0 = n_g0 := HU0.out.trans (show n_g0 = (turnL l0).length from by have h := g0_4.own.1; rw [entsC, flat_len entC 3 lenPiece] at h; omega).symm
  go_wp2_with fail
  refine (eqPieceS_same _ _ _ _ _ (turnL l0) _ HU0.out (by omega) g0_4.at_ u0_4.at_).mono ?_
  rintro e w5 ⟨rfl, f5⟩
  have e5 := f5
  have s5 := e5.size
  have B5 := B4.trans (e5.mono B4.size)
  have u0_5 := u0_4.later e5
  have y0_5 := y0_4.later e5
  have g0_5 := g0_4.later e5
  clear e5 B4 u0_4 y0_4 g0_4 f5
  go_wp2_with fail
  refine (toPieceS_any l0 _ _ _ _ HN0.out hn9_0 (hat0.below B5)).mono ?_
  rintro e w6 ⟨b6, rfl, o6⟩
  have e6 := o6.below
  have s6 := e6.size
  have B6 := B5.trans (e6.mono B5.size)
  have u0_6 := u0_5.later e6
  have y0_6 := y0_5.later e6
  have g0_6 := g0_5.later e6
  clear e6 B5 u0_5 y0_5 g0_5
  have z0_6 := o6.row
  clear o6
  go_wp2_with fail
  refine (eqPieceS_same _ _ _ _ _ l0 _ HN0.out (by omega) y0_6.at_ z0_6.at_).mono ?_
  rintro e w7 ⟨rfl, f7⟩
  have e7 := f7
  have s7 := e7.size
  have B7 := B6.trans (e7.mono B6.size)
  have u0_7 := u0_6.later e7
  have y0_7 := y0_6.later e7
  have g0_7 := g0_6.later e7
  have z0_7 := z0_6.later e7
  clear e7 B6 u0_6 y0_6 g0_6 z0_6 f7
  clear z0_7
  go_wp2_with fail
  refine (markPieceS_z _ _ _ _ l0 _ (1) _ y0_7.own (by omega) (by omega) (by omega) (by omega)).mono ?_
  rintro e w8 ⟨rfl, k8, g8⟩
  have s8 := g8.size
  have B8 := y0_7.below B7 g8 (by omega) B7.size
  have u0_8 := u0_7.kept y0_7 g8 (by omega)
  have y0_8 := y0_7.written k8 g8
  have g0_8 := g0_7.kept y0_7 g8 (by omega)
  clear k8 g8 B7 u0_7 y0_7 g0_7
  have tk : ¬ ((1 + n0 * 3 : Nat) : Int) < 0 := by omega
  go_wp2_with fail
  refine (eqPieceS_same _ _ _ _ _ (turnL l0) _ HU0.out (by omega) g0_8.at_ u0_8.at_).mono ?_
  rintro e w9 ⟨rfl, f9⟩
  have e9 := f9
  have s9 := e9.size
  have B9 := B8.trans (e9.mono B8.size)
  have u0_9 := u0_8.later e9
  have y0_9 := y0_8.later e9
  have g0_9 := g0_8.later e9
  clear e9 B8 u0_8 y0_8 g0_8 f9
  clear y0_9
  go_wp2_with fail
  refine (markPieceS_z _ _ _ _ (turnL l0) _ (1) _ g0_9.own (by omega) (by omega) (by omega) (by omega)).mono ?_
  rintro e w10 ⟨rfl, k10, g10⟩
  have s10 := g10.size
  have B10 := g0_9.below B9 g10 (by omega) B9.size
  have u0_10 := u0_9.kept g0_9 g10 (by omega)
  have g0_10 := g0_9.written k10 g10
  clear k10 g10 B9 u0_9 g0_9
  go_wp2_with fail
  refine (heldPieceS_z _ _ _ _ (1) _ g0_10.at_ (by omega) (by omega) (by omega) (by omega)).mono ?_
  rintro e w11 ⟨rfl, f11⟩
  have e11 := f11
  have s11 := e11.size
  have B11 := B10.trans (e11.mono B10.size)
  have u0_11 := u0_10.later e11
  have g0_11 := g0_10.later e11
  clear e11 B10 u0_10 g0_10 f11
  have tq0_11 : ¬ ((1 + n_u0 * 3 : Nat) : Int) < 0 := by omega
  go_wp2_with fail
  refine (toPieceS_any l0 _ _ _ _ HN0.out hn9_0 (hat0.below B11)).mono ?_
  rintro e w12 ⟨b12, rfl, o12⟩
  have e12 := o12.below
  have s12 := e12.size
  have B12 := B11.trans (e12.mono B11.size)
  have u0_12 := u0_11.later e12
  have g0_12 := g0_11.later e12
  clear e12 B11 u0_11 g0_11
  have v0_12 := o12.row
  clear o12
  go_wp2_with fail
  refine (implTurned_any l0 _ _ _ _ HN0.out (by omega) v0_12.at_).mono ?_
  rintro e w13 ⟨b13, n_h0, c13, rfl, o13⟩
  have e13 := o13.below
  have s13 := e13.size
  have B13 := B12.trans (e13.mono B12.size)
  have u0_13 := u0_12.later e13
  have g0_13 := g0_12.later e13
  have v0_13 := v0_12.later e13
  clear e13 B12 u0_12 g0_12 v0_12
  have h0_13 := o13.row
  clear o13
  obtain rfl : n_u0 = n_h0 := HU0.out.trans (show n_h0 = (turnL l0).length from by have h := h0_13.own.1; rw [entsC, flat_len entC 3 lenPiece] at h; omega).symm
  clear v0_13
  go_wp2_with fail
  refine (eqPieceS_same _ _ _ _ _ (turnL l0) _ HU0.out (by omega) h0_13.at_ u0_13.at_).mono ?_
  rintro e w14 ⟨rfl, f14⟩
  have e14 := f14
  have s14 := e14.size
  have B14 := B13.trans (e14.mono B13.size)
  have u0_14 := u0_13.later e14
  have g0_14 := g0_13.later e14
  have h0_14 := h0_13.later e14
  clear e14 B13 u0_13 g0_13 h0_13 f14
  go_wp2_with fail
  refine (heldPieceS_z _ _ _ _ (1) _ g0_14.at_ (by omega) (by omega) (by omega) (by omega)).mono ?_
  rintro e w15 ⟨rfl, f15⟩
  have e15 := f15
  have s15 := e15.size
  have B15 := B14.trans (e15.mono B14.size)
  have u0_15 := u0_14.later e15
  have g0_15 := g0_14.later e15
  have h0_15 := h0_14.later e15
  clear e15 B14 u0_14 g0_14 h0_14 f15
  have tq0_15 : ¬ ((1 + n_u0 * 3 : Nat) : Int) < 0 := by omega
  go_wp2
  go_ret
  exact ⟨rfl, B15⟩


end Go.Proofs.Ytddohldccglcmaa
