/-
  The contracts of the functions SignOf (the program's and the model's): at every number they return what 'signOf' says, and leave the world alone. No conditions.
-/
import Derived.Test.YtnjiooljoekhmaaProg
import Derived.Test.YtnjiooljoekhmaaMathA
import Derived.WalkKit
namespace Go.Proofs.Ytnjiooljoekhmaa
open Go.RowKit

theorem ret_int {k : IntKind} {a b : Int} (h : a = b) : Ending.returned (.int k a) = .returned (.int k b) := by rw [h]




end Go.Proofs.Ytnjiooljoekhmaa
