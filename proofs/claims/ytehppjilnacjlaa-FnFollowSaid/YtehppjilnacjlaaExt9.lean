/-
  Plain facts of pieces cut out of texts. No conditions. (Written by wip/tools/ch9_laws.py.)
-/
import Derived.Test.YtehppjilnacjlaaHelpQ
namespace Go.Proofs.Ytehppjilnacjlaa
open Go.RowKit

theorem ext_take (s : ByteArray) (e : Nat) : (s.extract 0 e).data.toList = s.data.toList.take e := by
  have h := ext_list s 0 e
  rwa [Nat.zero_add, List.drop_zero] at h
theorem ext_drop (s : ByteArray) (i e : Nat) (h : i ≤ e) : (s.extract i e).data.toList = (s.data.toList.take e).drop i := by
  have h1 := ext_list s i (e - i)
  rw [show i + (e - i) = e by omega] at h1
  rw [h1, List.drop_take]

end Go.Proofs.Ytehppjilnacjlaa
