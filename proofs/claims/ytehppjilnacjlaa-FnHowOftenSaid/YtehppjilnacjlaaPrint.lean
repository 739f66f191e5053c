/-
  The contracts of the model's functions of fingerprints: PrintOf, PrintPower, RollPrint, JoinPrint. Condition: texts have at most 2^22 bytes.
-/
import Derived.Test.YtehppjilnacjlaaProg
import Derived.Test.YtehppjilnacjlaaMathPrint
import Derived.WalkKit
namespace Go.Proofs.Ytehppjilnacjlaa
open Go.RowKit

theorem ret_i64 {a b : Int} (h : a = b) : Ending.returned (.int .i64 a) = .returned (.int .i64 b) := by rw [h]

theorem tmod_nat (z : Int) (a : Nat) (h : z = (a : Int)) : z.tmod 1000003 = ((a % 1000003 : Nat) : Int) := by
  subst h; exact (Int.ofNat_tmod a 1000003).symm

theorem prF_take (s : ByteArray) (k : Nat) (h : k < s.size) : prN (s.data.toList.take (k + 1)) = prStep (prN (s.data.toList.take k)) s[k] := by
  have hl : k < s.data.toList.length := h
  rw [List.take_succ_eq_append_getElem hl, prN_snoc]
  rfl


/-- What is out and what is left, in the way by squares. -/
def pwZ (n : Int) : Int := if n < 0 then 0 else (pwN n.toNat : Nat)
theorem pwZ_lt (n : Int) : 0 ≤ pwZ n ∧ pwZ n < 1000003 := by
  unfold pwZ
  split
  · omega
  · have := pwN_lt n.toNat; omega


/-- The fingerprint of a piece that is rolled on, of joined texts. -/
def rollN (n k g c : Nat) : Nat := ((n + 1000003 * 256 - (g + 1) * pwN (k - 1) % 1000003) % 1000003 * 257 + c + 1) % 1000003
def joinN (a b k : Nat) : Nat := (a * pwN k + b) % 1000003







end Go.Proofs.Ytehppjilnacjlaa
