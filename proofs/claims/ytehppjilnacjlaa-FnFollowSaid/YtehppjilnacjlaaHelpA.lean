/-
  The contracts of the laws' own helpers alive and bigText. No conditions.
-/
import Derived.Test.YtehppjilnacjlaaSig
import Derived.Lib.Hide
namespace Go.Proofs.Ytehppjilnacjlaa
open Go.RowKit

theorem alive_any (w : World) : Calls Try.prog 18 #[] w fun e w' => e = .returned (.bool true) ∧ w = w' := by
  go_enter Try.func18, Try.ntmps18
  go_wp2_with fail
  refine (implSignOf_is 65 97 _ (by decide)).mono ?_
  rintro e w' ⟨rfl, rfl⟩
  go_wp2_with fail
  refine (implSignOf_is 300 (-1) _ (by decide)).mono ?_
  rintro e w' ⟨rfl, rfl⟩
  go_wp2_with fail
  refine (implSignOf_is 10 32 _ (by decide)).mono ?_
  rintro e w' ⟨rfl, rfl⟩
  go_wp2
  go_ret
  exact ⟨rfl, rfl⟩

theorem bigText_any (s : ByteArray) (n : Int) (w : World) : Calls Try.prog 37 #[.string s, .int .i64 n] w fun e w' => e = .returned (.bool (decide (n < s.size))) ∧ w = w' := by
  go_enter Try.func37, Try.ntmps37
  go_wp2
  go_ret
  exact ⟨rfl, rfl⟩
theorem bigText_is (b : Bool) (s : ByteArray) (n : Int) (w : World) (h : decide (n < s.size) = b) : Calls Try.prog 37 #[.string s, .int .i64 n] w fun e w' => e = .returned (.bool b) ∧ w = w' := by subst h; exact bigText_any s n w

end Go.Proofs.Ytehppjilnacjlaa
