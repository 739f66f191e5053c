/-
  The contracts of the model's functions PrintsOf and FindPrint. Condition: texts have at most 2^22 bytes.
-/
import Derived.Test.YtehppjilnacjlaaPrint
import Derived.Test.YtehppjilnacjlaaMem
import Derived.Deep.QuietTactic
import Derived.BigQuiet
import Derived.IntWalk
import Derived.Outline
namespace Go.Proofs.Ytehppjilnacjlaa
open Go.RowKit

theorem Try.ulI3 : Try.prog.underlying 41 = some (.slice 3) := by kernel_rfl
theorem Try.infoI3 : (Try.prog.info? 3).map (fun i => (i.zero, i.size, i.bytes)) = some (some (.int .i64 0), 1, 8) := by kernel_rfl

theorem pieces_roll (s : ByteArray) (k i q : Nat) (hk : 0 < k) (hq : q = i + k) (h : q < s.size) :
    rollN (prN (pieceL s.data.toList k i)) k (s[i]'(by omega)).toNat s[q].toNat = prN (pieceL s.data.toList k (i + 1)) := by
  subst hq
  exact roll_piece s.data.toList k i 256 hk h (by decide)

theorem extract_first (s : ByteArray) (k : Nat) : (s.extract 0 k).data.toList = pieceL s.data.toList k 0 := by
  rw [ByteArray.data_extract, Array.toList_extract, List.extract_eq_take_drop, pieceL]
  simp

theorem printsK (s : List UInt8) (k i : Nat) {y : Nat} (hy : prN (pieceL s k i) = y) : intCells (printsTo s k (i + 1)) = intCells (printsTo s k i) ++ [.int .i64 y] := by
  rw [printsTo, intCells_append, hy]; rfl




end Go.Proofs.Ytehppjilnacjlaa
