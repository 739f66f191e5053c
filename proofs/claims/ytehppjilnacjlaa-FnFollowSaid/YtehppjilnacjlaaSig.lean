/-
  The contracts of the functions SignOf (the program's and the model's): at every number they return what 'signOf' says, and leave the world alone. No conditions.
-/
import Derived.Test.YtehppjilnacjlaaProg
import Derived.Test.YtehppjilnacjlaaMathA
import Derived.WalkKit
namespace Go.Proofs.Ytehppjilnacjlaa
open Go.RowKit

theorem ret_int {k : IntKind} {a b : Int} (h : a = b) : Ending.returned (.int k a) = .returned (.int k b) := by rw [h]


set_option maxHeartbeats 2000000 in
theorem implSignOf_any (b : Int) (w : World) :
    Calls Try.prog 48 #[.int .i64 b] w fun e w' => e = .returned (.int .i64 (signOf b)) ∧ w = w' := by
  rcases signOf_ways b with h | h | h | h | h | h | h | h | h | h
  all_goals first
    | rw [signOf_none (by omega)]
    | (have hg := signOf_great (b := b) (by omega) (by omega); rw [hg]; clear hg)
    | rw [signOf_same (by omega) (by omega) (by omega)]
    | rw [signOf_gap (by omega) (by omega) (by omega) (by omega) (by omega)]
  all_goals
    go_enter Try.func48, Try.ntmps48
    go_wp2
    go_ret
    first | exact ⟨rfl, rfl⟩ | exact ⟨ret_int (by omega), rfl⟩

theorem implSignOf_is (b g : Int) (w : World) (h : signOf b = g) :
    Calls Try.prog 48 #[.int .i64 b] w fun e w' => e = .returned (.int .i64 g) ∧ w = w' := by subst h; exact implSignOf_any b w

end Go.Proofs.Ytehppjilnacjlaa
