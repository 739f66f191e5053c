/-
  The contracts of the model's functions PiecesOf, LongestPiece and TurnedPieces. Conditions: texts have at most 2^20 bytes; rows at most 2^20 pieces.
-/
import Derived.Test.YtehppjilnacjlaaPieceG
import Derived.Test.YtehppjilnacjlaaPieceP
import Derived.Test.YtehppjilnacjlaaPieceR
namespace Go.Proofs.Ytehppjilnacjlaa
open Go.RowKit


end Go.Proofs.Ytehppjilnacjlaa
