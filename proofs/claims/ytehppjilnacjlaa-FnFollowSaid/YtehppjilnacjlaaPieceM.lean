/-
  The contracts of the model's functions PieceOk, PieceHas and GrowPiece. Condition: texts have at most 2^22 bytes.
-/
import Derived.Test.YtehppjilnacjlaaSide
import Derived.Test.YtehppjilnacjlaaMathPiece
import Derived.Test.YtehppjilnacjlaaTri
import Derived.Test.YtehppjilnacjlaaProg
import Derived.Lib.Hide
import Derived.Deep.QuietTactic
import Derived.BigQuiet
import Derived.IntWalk
namespace Go.Proofs.Ytehppjilnacjlaa
open Go.RowKit

theorem Try.uls7 : Try.prog.underlying 9 = some .string := by kernel_rfl
theorem eq7_no {P Q : ByteArray} (h : ¬ P = Q) : (P.toList == Q.toList) = false := by
  rw [ByteArray.toList_eq, ByteArray.toList_eq]
  refine beq_eq_false_iff_ne.2 fun e => h (ByteArray.ext (Array.toList_inj.1 e))
theorem back_test {s t : ByteArray} {i j k : Nat} (hk : k ≤ backP s t i j) : (0 < i - k ∧ 0 < j - k ∧ sm s t (i - k - 1) (j - k - 1)) ↔ k < backP s t i j := by
  have hle := backP_le s t i j
  constructor
  · rintro ⟨h1, h2, h3⟩
    rcases Nat.lt_or_ge k (backP s t i j) with h | h
    · exact h
    · exfalso
      obtain rfl : k = backP s t i j := by omega
      have h4 := backP_first s t i j
      rw [backP_step h1 h2 h3] at h4
      omega
  · intro h
    have h1 := backP_same s t i j (backP s t i j - 1 - k) (by omega)
    rw [show i - backP s t i j + (backP s t i j - 1 - k) = i - k - 1 by omega, show j - backP s t i j + (backP s t i j - 1 - k) = j - k - 1 by omega] at h1
    exact ⟨by omega, by omega, h1⟩
theorem run_test {s t : ByteArray} {i j k : Nat} (hk : k ≤ runP s t i j) : sm s t (i + k) (j + k) ↔ k < runP s t i j := by
  constructor
  · intro h
    rcases Nat.lt_or_ge k (runP s t i j) with h1 | h1
    · exact h1
    · exfalso
      obtain rfl : k = runP s t i j := by omega
      exact runP_stop s t i j h
  · exact runP_same s t i j k
/-- A number that a block holds. -/
def cellN (w : World) (b j : Nat) : Nat := match w.cell? ⟨b, j, none⟩ with
  | some (.int _ a) => a.toNat
  | _ => 0
theorem cellN_is {w : World} {b j : Nat} {a : Int} (h : w.cell? ⟨b, j, none⟩ = some (.int .i64 a)) : cellN w b j = a.toNat := by rw [cellN, h]



end Go.Proofs.Ytehppjilnacjlaa
