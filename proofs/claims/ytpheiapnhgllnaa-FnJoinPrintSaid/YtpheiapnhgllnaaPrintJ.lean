/-
  The contracts of the program's RollPrint and JoinPrint. No conditions.
-/
import Derived.Test.YtpheiapnhgllnaaPrintI
namespace Go.Proofs.Ytpheiapnhgllnaa
open Go.RowKit

set_option maxHeartbeats 1000000 in
theorem implRollPrint_bad (n k g c : Int) (w : World) (h : n < 0 ∨ 1000003 ≤ n ∨ k < 1 ∨ g < 0 ∨ 255 < g ∨ c < 0 ∨ 255 < c) :
    Calls Try.prog 22 #[.int .i64 n, .int .i64 k, .int .i64 g, .int .i64 c] w fun e w' => e = .returned (.int .i64 (-1)) ∧ w = w' := by
  by_cases hc0 : (n < 0 ∨ 1000003 ≤ n)
  · clear h
    go_enter Try.func22, Try.ntmps22
    go_wp2_with fail
    refine (implIsPrint_is false n _ (by simp; omega)).mono ?_
    rintro e w1 ⟨rfl, rfl⟩
    go_wp2
    go_ret
    exact ⟨rfl, rfl⟩
  by_cases hc1 : k < 1
  · clear h
    go_enter Try.func22, Try.ntmps22
    go_wp2_with fail
    refine (implIsPrint_is true n _ (by simp; omega)).mono ?_
    rintro e w1 ⟨rfl, rfl⟩
    go_wp2
    go_ret
    exact ⟨rfl, rfl⟩
  by_cases hc2 : (g < 0 ∨ 255 < g)
  · clear h
    go_enter Try.func22, Try.ntmps22
    go_wp2_with fail
    refine (implIsPrint_is true n _ (by simp; omega)).mono ?_
    rintro e w1 ⟨rfl, rfl⟩
    go_wp2_with fail
    refine (implIsByte_is false g _ (by simp; omega)).mono ?_
    rintro e w1 ⟨rfl, rfl⟩
    go_wp2
    go_ret
    exact ⟨rfl, rfl⟩
  by_cases hc3 : (c < 0 ∨ 255 < c)
  · clear h
    go_enter Try.func22, Try.ntmps22
    go_wp2_with fail
    refine (implIsPrint_is true n _ (by simp; omega)).mono ?_
    rintro e w1 ⟨rfl, rfl⟩
    go_wp2_with fail
    refine (implIsByte_is true g _ (by simp; omega)).mono ?_
    rintro e w1 ⟨rfl, rfl⟩
    go_wp2_with fail
    refine (implIsByte_is false c _ (by simp; omega)).mono ?_
    rintro e w1 ⟨rfl, rfl⟩
    go_wp2
    go_ret
    exact ⟨rfl, rfl⟩
  omega

set_option maxHeartbeats 1000000 in
theorem implRollPrint_ok (n k g c z : Nat) (w : World) (hn : n < 1000003) (hk : 1 ≤ k) (hk9 : (k : Int) ≤ 9223372036854775807) (hg : g ≤ 255) (hc : c ≤ 255) (hz : rollN n k g c = z) :
    Calls Try.prog 22 #[.int .i64 n, .int .i64 k, .int .i64 g, .int .i64 c] w fun e w' => e = .returned (.int .i64 z) ∧ w = w' := by
  have hp : pwZ ((k : Int) - 1) = (pwN (k - 1) : Nat) := by
    unfold pwZ; rw [if_neg (by omega)]; congr 2; omega
  have c1 := fun w => implPrintPower_any ((k : Int) - 1) w (by omega) (by omega)
  have hp2 := pwZ_lt ((k : Int) - 1)
  obtain ⟨p, hpp⟩ : ∃ p, pwZ ((k : Int) - 1) = p := ⟨_, rfl⟩
  rw [hpp] at c1 hp2 hp
  obtain ⟨hp0, hp9⟩ := hp2
  have c2 := fun w => implRolled_ok n k g c z p w hp hn hg hc hz
  clear hp hpp hz
  go_enter Try.func22, Try.ntmps22
  go_wp2_with fail
  refine (implIsPrint_is true n _ (by simp; omega)).mono ?_
  rintro e w1 ⟨rfl, rfl⟩
  go_wp2_with fail
  refine (implIsByte_is true g _ (by simp; omega)).mono ?_
  rintro e w1 ⟨rfl, rfl⟩
  go_wp2_with fail
  refine (implIsByte_is true c _ (by simp; omega)).mono ?_
  rintro e w1 ⟨rfl, rfl⟩
  go_wp2_with fail
  refine (c1 _).mono ?_
  rintro e w1 ⟨rfl, rfl⟩
  go_wp2_with fail
  refine (c2 _).mono ?_
  rintro e w1 ⟨rfl, rfl⟩
  go_wp2
  go_ret
  exact ⟨rfl, rfl⟩

set_option maxHeartbeats 1000000 in
theorem implJoinPrint_bad (a b k : Int) (w : World) (h : a < 0 ∨ 1000003 ≤ a ∨ b < 0 ∨ 1000003 ≤ b ∨ k < 0) :
    Calls Try.prog 25 #[.int .i64 a, .int .i64 b, .int .i64 k] w fun e w' => e = .returned (.int .i64 (-1)) ∧ w = w' := by
  by_cases hc0 : (a < 0 ∨ 1000003 ≤ a)
  · clear h
    go_enter Try.func25, Try.ntmps25
    go_wp2_with fail
    refine (implIsPrint_is false a _ (by simp; omega)).mono ?_
    rintro e w1 ⟨rfl, rfl⟩
    go_wp2
    go_ret
    exact ⟨rfl, rfl⟩
  by_cases hc1 : (b < 0 ∨ 1000003 ≤ b)
  · clear h
    go_enter Try.func25, Try.ntmps25
    go_wp2_with fail
    refine (implIsPrint_is true a _ (by simp; omega)).mono ?_
    rintro e w1 ⟨rfl, rfl⟩
    go_wp2_with fail
    refine (implIsPrint_is false b _ (by simp; omega)).mono ?_
    rintro e w1 ⟨rfl, rfl⟩
    go_wp2
    go_ret
    exact ⟨rfl, rfl⟩
  by_cases hc2 : k < 0
  · clear h
    go_enter Try.func25, Try.ntmps25
    go_wp2_with fail
    refine (implIsPrint_is true a _ (by simp; omega)).mono ?_
    rintro e w1 ⟨rfl, rfl⟩
    go_wp2_with fail
    refine (implIsPrint_is true b _ (by simp; omega)).mono ?_
    rintro e w1 ⟨rfl, rfl⟩
    go_wp2
    go_ret
    exact ⟨rfl, rfl⟩
  omega

set_option maxHeartbeats 1000000 in
theorem implJoinPrint_ok (a b k z : Nat) (w : World) (ha : a < 1000003) (hb : b < 1000003) (hk9 : (k : Int) ≤ 9223372036854775807) (hz : joinN a b k = z) :
    Calls Try.prog 25 #[.int .i64 a, .int .i64 b, .int .i64 k] w fun e w' => e = .returned (.int .i64 z) ∧ w = w' := by
  have hp : pwZ (k : Int) = (pwN k : Nat) := by
    unfold pwZ; rw [if_neg (by omega), Int.toNat_natCast]
  unfold joinN at hz
  have t3 : ((a : Int) * ((pwN k : Nat) : Int) + (b : Int)).tmod 1000003 = (z : Int) := by rw [← hz]; exact tmod_nat _ _ (by simp)
  rw [← hp] at t3
  have hp2 := pwZ_lt (k : Int)
  have c1 := fun w => implPrintPower_any (k : Int) w (by omega) (by omega)
  obtain ⟨p, hpp⟩ : ∃ p, pwZ (k : Int) = p := ⟨_, rfl⟩
  rw [hpp] at c1 hp2 t3
  obtain ⟨hp0, hp9⟩ := hp2
  have h1 : 0 ≤ (a : Int) * p := Int.mul_nonneg (by omega) (by omega)
  have h2 : (a : Int) * p ≤ 1000002 * 1000002 := Int.mul_le_mul (by omega) (by omega) (by omega) (by omega)
  have w1 : IntKind.i64.wrap ((a : Int) * p) = (a : Int) * p := IntWalk.i64_in _ (by omega)
  have w2 : IntKind.i64.wrap ((a : Int) * p + b) = (a : Int) * p + b := IntWalk.i64_in _ (by omega)
  clear hp hpp hz h1 h2
  go_enter Try.func25, Try.ntmps25
  go_wp2_with fail
  refine (implIsPrint_is true a _ (by simp; omega)).mono ?_
  rintro e w1 ⟨rfl, rfl⟩
  go_wp2_with fail
  refine (implIsPrint_is true b _ (by simp; omega)).mono ?_
  rintro e w1 ⟨rfl, rfl⟩
  go_wp2_with fail
  refine (c1 _).mono ?_
  rintro e w1 ⟨rfl, rfl⟩
  go_wp2
  go_ret
  exact ⟨rfl, rfl⟩

end Go.Proofs.Ytpheiapnhgllnaa
