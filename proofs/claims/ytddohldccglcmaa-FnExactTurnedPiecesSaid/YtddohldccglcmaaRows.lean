/-
  No cell of these rows narrows 'for every input' (looked for: loops, veiled, ifaces, maps, wideKeys, modest, calm, conditions, laid).
  DERIVED. THE GIVEN ROWS OF THIS SEAT. 6 by the template 'for every input the law returns true; each argument reads behind the call as it read before'; 0 by the template 'total and deterministic' (their statements: YtddohldccglcmaaTotals.lean).
  GIVEN WITH THE SEED: the statements are not yours to turn. If you find one false, say at which input.
  Laid BY PROGRAM, IN A SANDBOX (cutbox-rows.mjs): the forced cells as the released guide's own fill.sh prints them over the translation bb467cbc6a20438e… (all of the seat's roots in one cut). By AI agents, Wed Nov 11 2026. No macro, syntax, notation, axiom, sorry.
-/
import Derived.Test.YtddohldccglcmaaChecked
import GoSem.Claim
import GoSem.ClaimJoined
import GoSem.ClaimMapViews
import Derived.JoinedTies
import Derived.KernelRfl
namespace Go.Proofs.Ytddohldccglcmaa
/- THE CELL 'sum', in the pinned program and in every row, IS THE sha256 OF THE DUMP (.gsa) THAT YtddohldccglcmaaProg.lean LOADS. Nothing in Lean hashes anything: it is a label: what it is worth is what the hold of that sum in a sandbox is worth. -/
noncomputable def Try.pinned : Pinned := { name := "ytddohldccglcmaa", sum := "bb467cbc6a20438eae4d4b7fc7cf51a538eb1391be09a226ce096ead927c8844", checked := Try.checked }
namespace Rows
def none {H : Type} : Left H := { results := [], args := [] }

/-- 'laws.FnExactPieceOk': WHATEVER THE INPUT: true; the input reads as it did. -/
def fnExactPieceOkSpec : ChangeSpec := { name := "fnExactPieceOk", fn := fun _ => fun
  | [d1, d2, d3] => { results := [.lit (.bool true)], args := [d1, d2, d3] }
  | _ => none }
def fnExactPieceOkRow : OpenClaim := { program := "ytddohldccglcmaa", sum := "bb467cbc6a20438eae4d4b7fc7cf51a538eb1391be09a226ce096ead927c8844", func := "loop.example/copiedtexts/laws.FnExactPieceOk", spec := "fnExactPieceOk", apart := false }
def FnExactPieceOkSaid : Prop := fnExactPieceOkRow.holds Try.pinned (OpenSpec.ofChange fnExactPieceOkSpec)

/-- ITS FALSE NEIGHBOUR: 'it returns false'. Refute it at one input. -/
def fnExactPieceOkWrong : ChangeSpec := { name := "fnExactPieceOk", fn := fun _ => fun
  | [d1, d2, d3] => { results := [.lit (.bool false)], args := [d1, d2, d3] }
  | _ => none }
def FnExactPieceOkWrongFalsely : Prop := fnExactPieceOkRow.holds Try.pinned (OpenSpec.ofChange fnExactPieceOkWrong)

/-- 'laws.FnExactGrowPiece': WHATEVER THE INPUT: true; the input reads as it did. -/
def fnExactGrowPieceSpec : ChangeSpec := { name := "fnExactGrowPiece", fn := fun _ => fun
  | [d1, d2, d3, d4] => { results := [.lit (.bool true)], args := [d1, d2, d3, d4] }
  | _ => none }
def fnExactGrowPieceRow : OpenClaim := { program := "ytddohldccglcmaa", sum := "bb467cbc6a20438eae4d4b7fc7cf51a538eb1391be09a226ce096ead927c8844", func := "loop.example/copiedtexts/laws.FnExactGrowPiece", spec := "fnExactGrowPiece", apart := false }
def FnExactGrowPieceSaid : Prop := fnExactGrowPieceRow.holds Try.pinned (OpenSpec.ofChange fnExactGrowPieceSpec)

/-- ITS FALSE NEIGHBOUR: 'it returns false'. Refute it at one input. -/
def fnExactGrowPieceWrong : ChangeSpec := { name := "fnExactGrowPiece", fn := fun _ => fun
  | [d1, d2, d3, d4] => { results := [.lit (.bool false)], args := [d1, d2, d3, d4] }
  | _ => none }
def FnExactGrowPieceWrongFalsely : Prop := fnExactGrowPieceRow.holds Try.pinned (OpenSpec.ofChange fnExactGrowPieceWrong)

/-- 'laws.FnExactPiecesOf': WHATEVER THE INPUT: true; the input reads as it did. -/
def fnExactPiecesOfSpec : ChangeSpec := { name := "fnExactPiecesOf", fn := fun _ => fun
  | [d1, d2, d3] => { results := [.lit (.bool true)], args := [d1, d2, d3] }
  | _ => none }
def fnExactPiecesOfRow : OpenClaim := { program := "ytddohldccglcmaa", sum := "bb467cbc6a20438eae4d4b7fc7cf51a538eb1391be09a226ce096ead927c8844", func := "loop.example/copiedtexts/laws.FnExactPiecesOf", spec := "fnExactPiecesOf", apart := false }
def FnExactPiecesOfSaid : Prop := fnExactPiecesOfRow.holds Try.pinned (OpenSpec.ofChange fnExactPiecesOfSpec)

/-- ITS FALSE NEIGHBOUR: 'it returns false'. Refute it at one input. -/
def fnExactPiecesOfWrong : ChangeSpec := { name := "fnExactPiecesOf", fn := fun _ => fun
  | [d1, d2, d3] => { results := [.lit (.bool false)], args := [d1, d2, d3] }
  | _ => none }
def FnExactPiecesOfWrongFalsely : Prop := fnExactPiecesOfRow.holds Try.pinned (OpenSpec.ofChange fnExactPiecesOfWrong)

/-- 'laws.FnExactPieceHas': WHATEVER THE INPUT: true; the input reads as it did. -/
def fnExactPieceHasSpec : ChangeSpec := { name := "fnExactPieceHas", fn := fun _ => fun
  | [d1, d2, d3, d4] => { results := [.lit (.bool true)], args := [d1, d2, d3, d4] }
  | _ => none }
def fnExactPieceHasRow : OpenClaim := { program := "ytddohldccglcmaa", sum := "bb467cbc6a20438eae4d4b7fc7cf51a538eb1391be09a226ce096ead927c8844", func := "loop.example/copiedtexts/laws.FnExactPieceHas", spec := "fnExactPieceHas", apart := false }
def FnExactPieceHasSaid : Prop := fnExactPieceHasRow.holds Try.pinned (OpenSpec.ofChange fnExactPieceHasSpec)

/-- ITS FALSE NEIGHBOUR: 'it returns false'. Refute it at one input. -/
def fnExactPieceHasWrong : ChangeSpec := { name := "fnExactPieceHas", fn := fun _ => fun
  | [d1, d2, d3, d4] => { results := [.lit (.bool false)], args := [d1, d2, d3, d4] }
  | _ => none }
def FnExactPieceHasWrongFalsely : Prop := fnExactPieceHasRow.holds Try.pinned (OpenSpec.ofChange fnExactPieceHasWrong)

/-- 'laws.FnExactLongestPiece': WHATEVER THE INPUT: true; the input reads as it did. -/
def fnExactLongestPieceSpec : ChangeSpec := { name := "fnExactLongestPiece", fn := fun _ => fun
  | [d1, d2] => { results := [.lit (.bool true)], args := [d1, d2] }
  | _ => none }
def fnExactLongestPieceRow : OpenClaim := { program := "ytddohldccglcmaa", sum := "bb467cbc6a20438eae4d4b7fc7cf51a538eb1391be09a226ce096ead927c8844", func := "loop.example/copiedtexts/laws.FnExactLongestPiece", spec := "fnExactLongestPiece", apart := false }
def FnExactLongestPieceSaid : Prop := fnExactLongestPieceRow.holds Try.pinned (OpenSpec.ofChange fnExactLongestPieceSpec)

/-- ITS FALSE NEIGHBOUR: 'it returns false'. Refute it at one input. -/
def fnExactLongestPieceWrong : ChangeSpec := { name := "fnExactLongestPiece", fn := fun _ => fun
  | [d1, d2] => { results := [.lit (.bool false)], args := [d1, d2] }
  | _ => none }
def FnExactLongestPieceWrongFalsely : Prop := fnExactLongestPieceRow.holds Try.pinned (OpenSpec.ofChange fnExactLongestPieceWrong)

/-- 'laws.FnExactTurnedPieces': WHATEVER THE INPUT: true; the input reads as it did. -/
def fnExactTurnedPiecesSpec : ChangeSpec := { name := "fnExactTurnedPieces", fn := fun _ => fun
  | [d] => { results := [.lit (.bool true)], args := [d] }
  | _ => none }
def fnExactTurnedPiecesRow : OpenClaim := { program := "ytddohldccglcmaa", sum := "bb467cbc6a20438eae4d4b7fc7cf51a538eb1391be09a226ce096ead927c8844", func := "loop.example/copiedtexts/laws.FnExactTurnedPieces", spec := "fnExactTurnedPieces", recurses := true, apart := false }
def FnExactTurnedPiecesSaid : Prop := fnExactTurnedPiecesRow.holds Try.pinned (OpenSpec.ofChange fnExactTurnedPiecesSpec)

/-- ITS FALSE NEIGHBOUR: 'it returns false'. Refute it at one input. -/
def fnExactTurnedPiecesWrong : ChangeSpec := { name := "fnExactTurnedPieces", fn := fun _ => fun
  | [d] => { results := [.lit (.bool false)], args := [d] }
  | _ => none }
def FnExactTurnedPiecesWrongFalsely : Prop := fnExactTurnedPiecesRow.holds Try.pinned (OpenSpec.ofChange fnExactTurnedPiecesWrong)

/- THE SECOND FORM. 'bulk': how many values and letters a reading holds, each counted each time it is reached (what is shared counts as often as it is met; a slice's spare places count too). A statement '..UptoSaid' is the law's where the arguments, and the package variables that the reading takes, are together of bulk at most 1048576: NARROWER than '..Said'. Prove '..Said' where nothing that the law and all that it calls make is longer than what came in: it says more and counts as full. Else prove '..UptoSaid'. A law counts once. -/
mutual
def uptoBulk {H : Type} : DataW H → Nat
  | .lit (.string bytes) => bytes.length + 1
  | .lit _ => 1
  | .nil => 1
  | .ptr d => uptoBulk d + 1
  | .slice elems spare => uptoBulkAll elems + uptoBulkAll spare + 1
  | .agg parts => uptoBulkAll parts + 1
  | .iface _ d => uptoBulk d + 1
  | .map entries => uptoBulkEntries entries + 1
  | .held _ => 1
def uptoBulkAll {H : Type} : List (DataW H) → Nat
  | [] => 0
  | d :: r => uptoBulk d + uptoBulkAll r
def uptoBulkEntries {H : Type} : List (Lit × DataW H) → Nat
  | [] => 0
  | x :: r => uptoBulkEntry x + uptoBulkEntries r
def uptoBulkEntry {H : Type} : Lit × DataW H → Nat
  | (.string bytes, d) => bytes.length + uptoBulk d + 1
  | (_, d) => uptoBulk d + 1
 end
def uptoSmall : (H : Type) → List (DataW H) → Bool := fun _ ds => decide (uptoBulkAll ds ≤ 1048576)
def OpenSpec.upto (s : _root_.Go.ChangeSpec) : _root_.Go.OpenSpec := { _root_.Go.OpenSpec.ofChange s with cond := some uptoSmall }

/-- 'laws.FnExactPieceOk', WHERE WHAT IT READS IS OF BULK AT MOST 1048576: true; the input reads as it did. -/
def fnExactPieceOkUptoRow : OpenClaim := { program := "ytddohldccglcmaa", sum := "bb467cbc6a20438eae4d4b7fc7cf51a538eb1391be09a226ce096ead927c8844", func := "loop.example/copiedtexts/laws.FnExactPieceOk", spec := "fnExactPieceOk", apart := false, narrowed := true }
def FnExactPieceOkUptoSaid : Prop := fnExactPieceOkUptoRow.holds Try.pinned (OpenSpec.upto fnExactPieceOkSpec)

/-- 'laws.FnExactGrowPiece', WHERE WHAT IT READS IS OF BULK AT MOST 1048576: true; the input reads as it did. -/
def fnExactGrowPieceUptoRow : OpenClaim := { program := "ytddohldccglcmaa", sum := "bb467cbc6a20438eae4d4b7fc7cf51a538eb1391be09a226ce096ead927c8844", func := "loop.example/copiedtexts/laws.FnExactGrowPiece", spec := "fnExactGrowPiece", apart := false, narrowed := true }
def FnExactGrowPieceUptoSaid : Prop := fnExactGrowPieceUptoRow.holds Try.pinned (OpenSpec.upto fnExactGrowPieceSpec)

/-- 'laws.FnExactPiecesOf', WHERE WHAT IT READS IS OF BULK AT MOST 1048576: true; the input reads as it did. -/
def fnExactPiecesOfUptoRow : OpenClaim := { program := "ytddohldccglcmaa", sum := "bb467cbc6a20438eae4d4b7fc7cf51a538eb1391be09a226ce096ead927c8844", func := "loop.example/copiedtexts/laws.FnExactPiecesOf", spec := "fnExactPiecesOf", apart := false, narrowed := true }
def FnExactPiecesOfUptoSaid : Prop := fnExactPiecesOfUptoRow.holds Try.pinned (OpenSpec.upto fnExactPiecesOfSpec)

/-- 'laws.FnExactPieceHas', WHERE WHAT IT READS IS OF BULK AT MOST 1048576: true; the input reads as it did. -/
def fnExactPieceHasUptoRow : OpenClaim := { program := "ytddohldccglcmaa", sum := "bb467cbc6a20438eae4d4b7fc7cf51a538eb1391be09a226ce096ead927c8844", func := "loop.example/copiedtexts/laws.FnExactPieceHas", spec := "fnExactPieceHas", apart := false, narrowed := true }
def FnExactPieceHasUptoSaid : Prop := fnExactPieceHasUptoRow.holds Try.pinned (OpenSpec.upto fnExactPieceHasSpec)

/-- 'laws.FnExactLongestPiece', WHERE WHAT IT READS IS OF BULK AT MOST 1048576: true; the input reads as it did. -/
def fnExactLongestPieceUptoRow : OpenClaim := { program := "ytddohldccglcmaa", sum := "bb467cbc6a20438eae4d4b7fc7cf51a538eb1391be09a226ce096ead927c8844", func := "loop.example/copiedtexts/laws.FnExactLongestPiece", spec := "fnExactLongestPiece", apart := false, narrowed := true }
def FnExactLongestPieceUptoSaid : Prop := fnExactLongestPieceUptoRow.holds Try.pinned (OpenSpec.upto fnExactLongestPieceSpec)

/-- 'laws.FnExactTurnedPieces', WHERE WHAT IT READS IS OF BULK AT MOST 1048576: true; the input reads as it did. -/
def fnExactTurnedPiecesUptoRow : OpenClaim := { program := "ytddohldccglcmaa", sum := "bb467cbc6a20438eae4d4b7fc7cf51a538eb1391be09a226ce096ead927c8844", func := "loop.example/copiedtexts/laws.FnExactTurnedPieces", spec := "fnExactTurnedPieces", recurses := true, apart := false, narrowed := true }
def FnExactTurnedPiecesUptoSaid : Prop := fnExactTurnedPiecesUptoRow.holds Try.pinned (OpenSpec.upto fnExactTurnedPiecesSpec)

end Rows
end Go.Proofs.Ytddohldccglcmaa
