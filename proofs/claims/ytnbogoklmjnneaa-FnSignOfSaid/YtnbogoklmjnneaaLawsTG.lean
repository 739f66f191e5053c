/-
  The walks of two laws of chapter 1 over drawn bytes and texts: each returns true, and nothing that was there is written. No conditions.
-/
import Derived.Test.YtnbogoklmjnneaaLawsTD
import Derived.Laws.Strings2
import Derived.Laws.Strings3
import Derived.Deep.RegionWith
namespace Go.Proofs.Ytnbogoklmjnneaa
open Go.RowKit

set_option maxHeartbeats 1000000 in
theorem DrawSignOf_any (w : World) (a : Option Addr) (len cap : Nat) (zs : List Int) (h : IsRowK .u8 w a len cap zs) :
    Calls Try.prog 13 #[.slice a len cap] w fun e w' => ∃ b : Int, -10 ≤ b ∧ b ≤ 1000 ∧ e = .returned (.int .i64 b) ∧ Below w.heap.size w w' := by
  go_enter Try.func13, Try.ntmps13
  go_wp2_with fail
  refine (open_any _ _ _ _ _ h).mono ?_
  rintro e w1 ⟨n, rfl, hrd, hb, hs⟩
  go_wp2_with fail
  refine (pick_pos _ _ _ _ _ _ 256 (by omega) hrd (by omega) (by omega)).mono ?_
  rintro e w2 ⟨r1, hr1, rfl, hrd2, hg2⟩
  go_wp2_with fail
  refine (pick_pos _ _ _ _ _ _ 256 (by omega) hrd2 (by omega) (by omega)).mono ?_
  rintro e w3 ⟨r2, hr2, rfl, hrd3, hg3⟩
  go_wp2_with fail
  refine (pick_pos _ _ _ _ _ _ 60 (by omega) hrd3 (by omega) (by omega)).mono ?_
  rintro e w4 ⟨r3, hr3, rfl, hrd4, hg4⟩
  go_wp2_with fail
  refine (pick_pos _ _ _ _ _ _ 5 (by omega) (rd_alloc hrd4 _) (by omega) (by omega)).mono ?_
  rintro e w5 ⟨r4, hr4, rfl, hrd5, hg5⟩
  have hrow := laid_row hg5 hrd4.lt
  have hB := below_rd hb hs (grownBy_trans (grownBy_trans (grownBy_trans (grownBy_trans hg2 hg3) hg4) (World.grownBy_alloc _ _ _)) hg5)
  obtain ⟨t, ht1, ht2, hc⟩ : ∃ t : Int, -10 ≤ t ∧ t ≤ 1000 ∧ w5.cell? ⟨w4.heap.size, r4, none⟩ = some (.int .i64 t) := by
    rw [cell_of_row w5 w4.heap.size r4 _ _ _ hrow]
    have : r4 = 0 ∨ r4 = 1 ∨ r4 = 2 ∨ r4 = 3 ∨ r4 = 4 := by omega
    rcases this with rfl | rfl | rfl | rfl | rfl
    all_goals exact ⟨_, by omega, by omega, rfl⟩
  clear hrow hb hs hg2 hg3 hg4 hg5 hrd hrd2 hrd3 hrd4 hrd5
  go_wp2
  go_ret
  exact ⟨t, ht1, ht2, rfl, hB⟩

theorem walkFnSignOf (a : Option Addr) (len cap : Nat) (zs : List Int) (w : World) (h : IsRowK .u8 w a len cap zs) :
    Calls Try.prog 3 #[.slice a len cap] w fun e w' => e = .returned (.bool true) ∧ Below w.heap.size w w' := by
  go_enter Try.func3, Try.ntmps3
  go_wp2_with fail
  refine (DrawSignOf_any _ _ _ _ _ h).mono ?_
  rintro e w0 ⟨b, hb1, hb2, rfl, hb0⟩
  clear h
  obtain ⟨g, hg⟩ : ∃ g, signOf b = g := ⟨_, rfl⟩
  have hgg : g < 0 ∨ signOf g = g := by
    rw [← hg]
    by_cases h : b < 0 ∨ 255 < b
    · left; rw [signOf_none h]; omega
    · right; exact signOf_signOf b (by omega) (by omega)
  have HG := Lib.hid hg
  clear hg
  go_wp2_with fail
  refine (implSignOf_is b g _ HG.out).mono ?_
  rintro e w1 ⟨rfl, rfl⟩
  go_wp2_with fail
  refine (specSignOf_is b g _ HG.out).mono ?_
  rintro e w1 ⟨rfl, rfl⟩
  by_cases hneg : g < 0
  · clear hgg
    go_wp2_with fail
    refine (implSignOf_is 81 113 _ (by decide)).mono ?_
    rintro e w1 ⟨rfl, rfl⟩
    go_wp2_with fail
    refine (implSignOf_is 113 113 _ (by decide)).mono ?_
    rintro e w1 ⟨rfl, rfl⟩
    go_wp2_with fail
    refine (alive_any _).mono ?_
    rintro e w5 ⟨rfl, rfl⟩
    go_wp2
    go_ret
    exact ⟨rfl, hb0⟩
  · have H2 := Lib.hid (hgg.resolve_left hneg)
    clear hgg
    go_wp2_with fail
    refine (implSignOf_is g g _ H2.out).mono ?_
    rintro e w1 ⟨rfl, rfl⟩
    go_wp2_with fail
    refine (implSignOf_is 81 113 _ (by decide)).mono ?_
    rintro e w1 ⟨rfl, rfl⟩
    go_wp2_with fail
    refine (implSignOf_is 113 113 _ (by decide)).mono ?_
    rintro e w1 ⟨rfl, rfl⟩
    go_wp2_with fail
    refine (alive_any _).mono ?_
    rintro e w5 ⟨rfl, rfl⟩
    go_wp2
    go_ret
    exact ⟨rfl, hb0⟩

end Go.Proofs.Ytnbogoklmjnneaa
