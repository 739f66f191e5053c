/-
  The contracts of the program's functions hasBytesFrom, PieceOk and PieceHas. Condition: texts have at most 2^22 bytes.
-/
import Derived.Test.YtehppjilnacjlaaPieceR
namespace Go.Proofs.Ytehppjilnacjlaa
open Go.RowKit




end Go.Proofs.Ytehppjilnacjlaa
