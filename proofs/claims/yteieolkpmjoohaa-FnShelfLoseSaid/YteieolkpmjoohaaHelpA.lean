/-
  The contracts of the laws' own helpers alive and bigText. No conditions.
-/
import Derived.Test.YteieolkpmjoohaaSig
import Derived.Lib.Hide
namespace Go.Proofs.Yteieolkpmjoohaa
open Go.RowKit

theorem alive_any (w : World) : Calls Try.prog 17 #[] w fun e w' => e = .returned (.bool true) ∧ w = w' := by
  go_enter Try.func17, Try.ntmps17
  go_wp2_with fail
  refine (implSignOf_is 65 97 _ (by decide)).mono ?_
  rintro e w' ⟨rfl, rfl⟩
  go_wp2_with fail
  refine (implSignOf_is 300 (-1) _ (by decide)).mono ?_
  rintro e w' ⟨rfl, rfl⟩
  go_wp2_with fail
  refine (implSignOf_is 10 32 _ (by decide)).mono ?_
  rintro e w' ⟨rfl, rfl⟩
  go_wp2
  go_ret
  exact ⟨rfl, rfl⟩


end Go.Proofs.Yteieolkpmjoohaa
