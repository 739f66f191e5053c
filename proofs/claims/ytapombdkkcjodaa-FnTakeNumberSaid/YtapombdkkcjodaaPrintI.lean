/-
  The contracts of the program's functions of fingerprints: printStep, PrintOf, PrintPower, rolledPrint, isPrint, isByte, RollPrint, JoinPrint. Condition: texts have at most 2^22 bytes.
-/
import Derived.Test.YtapombdkkcjodaaPrint
namespace Go.Proofs.Ytapombdkkcjodaa
open Go.RowKit






theorem roll_same (n r q c z : Nat) (hr : r < 1000003) (hq : q + r = n + 1000003) (hz : ((n + 1000003 * 256 - r) % 1000003 * 257 + c + 1) % 1000003 = z) : (q * 257 + c + 1) % 1000003 = z := by
  have hx : n + 1000003 * 256 - r = q + 1000003 * 255 := by omega
  have e1 : Eqm (n + 1000003 * 256 - r) q := hx ▸ Eqm.whole q 255
  have e2 : Eqm (q * 257 + c + 1) ((n + 1000003 * 256 - r) % 1000003 * 257 + c + 1) := ((((Eqm.rest _).trans e1).symm.mul (Eqm.refl 257)).add (Eqm.refl c)).add (Eqm.refl 1)
  exact Eq.trans e2 hz

/-- With the power of one byte less than the piece has. -/

theorem implIsPrint_is (b : Bool) (n : Int) (w : World) (h : decide (0 ≤ n ∧ n < 1000003) = b) :
    Calls Try.prog 45 #[.int .i64 n] w fun e w' => e = .returned (.bool b) ∧ w = w' := by
  by_cases h0 : 0 ≤ n
  · by_cases h1 : n < 1000003
    · obtain rfl : true = b := by rw [← h]; simp [h0, h1]
      clear h
      go_enter Try.func45, Try.ntmps45
      go_wp2
      go_ret
      exact ⟨rfl, rfl⟩
    · obtain rfl : false = b := by rw [← h]; simp [h0, h1]
      clear h
      go_enter Try.func45, Try.ntmps45
      go_wp2
      go_ret
      exact ⟨rfl, rfl⟩
  · obtain rfl : false = b := by rw [← h]; simp [h0]
    clear h
    go_enter Try.func45, Try.ntmps45
    go_wp2
    go_ret
    exact ⟨rfl, rfl⟩


end Go.Proofs.Ytapombdkkcjodaa
