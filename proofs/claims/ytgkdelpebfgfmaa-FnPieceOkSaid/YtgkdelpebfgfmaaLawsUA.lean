/-
  The walks of the laws PieceOk, PieceHas and LongestPiece: each answers true, and nothing that was there is written. No conditions. (Written by wip/tools/ch7_laws.py.)
-/
import Derived.Test.YtgkdelpebfgfmaaHelpP
import Derived.Test.YtgkdelpebfgfmaaDrawW
import Derived.Deep.RegionHeld3
namespace Go.Proofs.Ytgkdelpebfgfmaa
open Go.RowKit

theorem okP_x : okP ⟨#[120]⟩ ⟨#[120]⟩ (0, 0, 1) := by
  have h := runP_pos (sm_self (s := ⟨#[120]⟩) (i := 0) (by decide))
  rw [okP_iff]
  exact ⟨by decide, by decide, by decide, by decide, by decide, h⟩
set_option maxRecDepth 4000 in
set_option maxHeartbeats 8000000 in
theorem walkFnPieceOk (a : Option Addr) (len cap : Nat) (zs : List Int) (w : World) (h : IsRowK .u8 w a len cap zs) :
    Calls Try.prog 4 #[.slice a len cap] w fun e w' => e = .returned (.bool true) ∧ Below w.heap.size w w' := by
  by_cases hs : 1048576 < len
  · have h2 : (1048576 : Int) < (len : Int) := by omega
    go_enter Try.func4, Try.ntmps4
    go_wp2
    go_ret
    exact ⟨rfl, Below.refl _ _⟩
  go_enter Try.func4, Try.ntmps4
  go_wp2_with fail
  refine (DrawPieceOk_any _ _ _ _ _ h).mono ?_
  rintro e w0 ⟨t, u, x, y, z, ht, hu, wx, wy, wz, rfl, BB⟩
  clear h
  have b1 := wf_bounds7 wx
  have b2 := wf_bounds7 wy
  have b3 := wf_bounds7 wz
  clear wx wy wz hs
  obtain ⟨r, hr⟩ := some_bool7 (okP t u (x, y, z))
  have c1 := fun w => implPieceOk_is r t u x y z w hr b1.2 b2.2 (by omega) (by omega)
  have c2 := fun w => specPieceOk_is r t u x y z w hr (by omega) (by omega)
  have c3 := fun w => implPieceOk_is true ⟨#[120]⟩ ⟨#[120]⟩ 0 0 1 w ⟨fun _ => okP_x, fun _ => rfl⟩ (by omega) (by omega) (by decide) (by decide)
  have t1 : (r != r) = false := by cases r <;> rfl
  have HR := Lib.hid hr
  clear hr
  have ha := (Below.refl w0.heap.size w0).alloc (Nat.le_refl _) (.cells #[.int .i64 x, .int .i64 y, .int .i64 z] 29)
  have S5 := Side.fresh (w := w0) (B := w.heap.size) (v := (.slice none 0 0)) 29 [.int .i64 x, .int .i64 y, .int .i64 z] BB.size (by intro k hk; simp [Value.ownBlock] at hk)
  replace BB := BB.trans (ha.mono BB.size)
  clear ha
  have kS50 := S5.cell 0 _ rfl
  have kS51 := S5.cell 1 _ rfl
  have kS52 := S5.cell 2 _ rfl
  go_wp2_with fail
  refine (c1 _).mono ?_
  rintro e w1 ⟨rfl, hb⟩
  clear kS50 kS51 kS52
  replace S5 := S5.later hb
  replace BB := BB.trans (hb.mono BB.size)
  clear hb
  obtain ⟨g5, hg5⟩ : ∃ g, w0.heap.size = g := ⟨_, rfl⟩
  rw [hg5]
  replace S5 : Side w1 w.heap.size (.slice none 0 0) 29 g5 [.int .i64 x, .int .i64 y, .int .i64 z] := hg5 ▸ S5
  clear hg5
  have kS50 := S5.cell 0 _ rfl
  have kS51 := S5.cell 1 _ rfl
  have kS52 := S5.cell 2 _ rfl
  go_wp2_with fail
  refine (c2 _).mono ?_
  rintro e w2 ⟨rfl, hb⟩
  clear kS50 kS51 kS52
  replace S5 := S5.later hb
  replace BB := BB.trans (hb.mono BB.size)
  clear hb
  have kS50 := S5.cell 0 _ rfl
  have kS51 := S5.cell 1 _ rfl
  have kS52 := S5.cell 2 _ rfl
  cases r with
  | false =>
    go_wp2_with fail
    refine (c3 _).mono ?_
    rintro e w4 ⟨rfl, hb⟩
    replace BB := (BB.alloc BB.size _).trans (hb.mono (Nat.le_trans BB.size (heap_le_alloc _ _)))
    go_wp2_with fail
    refine (alive_any _).mono ?_
    rintro e wq ⟨rfl, rfl⟩
    go_wp2
    go_ret
    exact ⟨rfl, BB⟩
  | true =>
    have hp := HR.out.1 rfl
    rw [okP_iff] at hp
    obtain ⟨q, hq⟩ : ∃ q : Int, z - 1 = q := ⟨_, rfl⟩
    have v1 : IntKind.i64.wrap (z - 1) = q := by rw [IntWalk.i64_in _ (by omega)]; exact hq
    by_cases hq0 : q = 0
    · have tq : (q == 0) = true := by simpa using hq0
      clear hq hq0 hp
      go_wp2_with fail
      refine (c3 _).mono ?_
      rintro e w4 ⟨rfl, hb⟩
      replace BB := (BB.alloc BB.size _).trans (hb.mono (Nat.le_trans BB.size (heap_le_alloc _ _)))
      go_wp2_with fail
      refine (alive_any _).mono ?_
      rintro e wq ⟨rfl, rfl⟩
      go_wp2
      go_ret
      exact ⟨rfl, BB⟩
    · have tq : (q == 0) = false := beq_eq_false_iff_ne.2 hq0
      have c4 := fun w => implPieceOk_is true t u x y q w ⟨fun _ => by rw [okP_iff]; omega, fun _ => rfl⟩ b1.2 b2.2 (by omega) (by omega)
      clear hq hq0 hp
      go_wp2_with fail
      refine (c4 _).mono ?_
      rintro e w3 ⟨rfl, hb⟩
      replace BB := (BB.alloc BB.size _).trans (hb.mono (Nat.le_trans BB.size (heap_le_alloc _ _)))
      clear hb
      go_wp2_with fail
      refine (c3 _).mono ?_
      rintro e w4 ⟨rfl, hb⟩
      replace BB := BB.trans (hb.mono BB.size)
      go_wp2_with fail
      refine (alive_any _).mono ?_
      rintro e wq ⟨rfl, rfl⟩
      go_wp2
      go_ret
      exact ⟨rfl, BB⟩

end Go.Proofs.Ytgkdelpebfgfmaa
