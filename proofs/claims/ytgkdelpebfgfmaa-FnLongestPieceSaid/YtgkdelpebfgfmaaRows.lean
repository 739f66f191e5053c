/-
  No cell of these rows narrows 'for every input' (looked for: loops, veiled, ifaces, maps, wideKeys, modest, calm, conditions, laid).
  DERIVED. THE GIVEN ROWS OF THIS SEAT. 7 by the template 'for every input the law returns true; each argument reads behind the call as it read before'; 0 by the template 'total and deterministic' (their statements: YtgkdelpebfgfmaaTotals.lean).
  GIVEN WITH THE SEED: the statements are not yours to turn. If you find one false, say at which input.
  Laid BY PROGRAM, IN A SANDBOX (cutbox-rows.mjs): the forced cells as the released guide's own fill.sh prints them over the translation a3c59a4b725d4345… (all of the seat's roots in one cut). By AI agents, Wed Nov 11 2026. No macro, syntax, notation, axiom, sorry.
-/
import Derived.Test.YtgkdelpebfgfmaaChecked
import GoSem.Claim
import GoSem.ClaimJoined
import GoSem.ClaimMapViews
import Derived.JoinedTies
import Derived.KernelRfl
namespace Go.Proofs.Ytgkdelpebfgfmaa
/- THE CELL 'sum', in the pinned program and in every row, IS THE sha256 OF THE DUMP (.gsa) THAT YtgkdelpebfgfmaaProg.lean LOADS. Nothing in Lean hashes anything: it is a label: what it is worth is what the hold of that sum in a sandbox is worth. -/
noncomputable def Try.pinned : Pinned := { name := "ytgkdelpebfgfmaa", sum := "a3c59a4b725d434539b3e147af31776f3153c251c1cfa52b78b3bd780b64814a", checked := Try.checked }
namespace Rows
def none {H : Type} : Left H := { results := [], args := [] }

/-- 'laws.FnPiecesOf': WHATEVER THE INPUT: true; the input reads as it did. -/
def fnPiecesOfSpec : ChangeSpec := { name := "fnPiecesOf", fn := fun _ => fun
  | [d] => { results := [.lit (.bool true)], args := [d] }
  | _ => none }
def fnPiecesOfRow : OpenClaim := { program := "ytgkdelpebfgfmaa", sum := "a3c59a4b725d434539b3e147af31776f3153c251c1cfa52b78b3bd780b64814a", func := "loop.example/copiedtexts/laws.FnPiecesOf", spec := "fnPiecesOf", apart := false }
def FnPiecesOfSaid : Prop := fnPiecesOfRow.holds Try.pinned (OpenSpec.ofChange fnPiecesOfSpec)

/-- ITS FALSE NEIGHBOUR: 'it returns false'. Refute it at one input. -/
def fnPiecesOfWrong : ChangeSpec := { name := "fnPiecesOf", fn := fun _ => fun
  | [d] => { results := [.lit (.bool false)], args := [d] }
  | _ => none }
def FnPiecesOfWrongFalsely : Prop := fnPiecesOfRow.holds Try.pinned (OpenSpec.ofChange fnPiecesOfWrong)

/-- 'laws.FnPieceOk': WHATEVER THE INPUT: true; the input reads as it did. -/
def fnPieceOkSpec : ChangeSpec := { name := "fnPieceOk", fn := fun _ => fun
  | [d] => { results := [.lit (.bool true)], args := [d] }
  | _ => none }
def fnPieceOkRow : OpenClaim := { program := "ytgkdelpebfgfmaa", sum := "a3c59a4b725d434539b3e147af31776f3153c251c1cfa52b78b3bd780b64814a", func := "loop.example/copiedtexts/laws.FnPieceOk", spec := "fnPieceOk", apart := false }
def FnPieceOkSaid : Prop := fnPieceOkRow.holds Try.pinned (OpenSpec.ofChange fnPieceOkSpec)

/-- ITS FALSE NEIGHBOUR: 'it returns false'. Refute it at one input. -/
def fnPieceOkWrong : ChangeSpec := { name := "fnPieceOk", fn := fun _ => fun
  | [d] => { results := [.lit (.bool false)], args := [d] }
  | _ => none }
def FnPieceOkWrongFalsely : Prop := fnPieceOkRow.holds Try.pinned (OpenSpec.ofChange fnPieceOkWrong)

/-- 'laws.FnGrowPiece': WHATEVER THE INPUT: true; the input reads as it did. -/
def fnGrowPieceSpec : ChangeSpec := { name := "fnGrowPiece", fn := fun _ => fun
  | [d] => { results := [.lit (.bool true)], args := [d] }
  | _ => none }
def fnGrowPieceRow : OpenClaim := { program := "ytgkdelpebfgfmaa", sum := "a3c59a4b725d434539b3e147af31776f3153c251c1cfa52b78b3bd780b64814a", func := "loop.example/copiedtexts/laws.FnGrowPiece", spec := "fnGrowPiece", apart := false }
def FnGrowPieceSaid : Prop := fnGrowPieceRow.holds Try.pinned (OpenSpec.ofChange fnGrowPieceSpec)

/-- ITS FALSE NEIGHBOUR: 'it returns false'. Refute it at one input. -/
def fnGrowPieceWrong : ChangeSpec := { name := "fnGrowPiece", fn := fun _ => fun
  | [d] => { results := [.lit (.bool false)], args := [d] }
  | _ => none }
def FnGrowPieceWrongFalsely : Prop := fnGrowPieceRow.holds Try.pinned (OpenSpec.ofChange fnGrowPieceWrong)

/-- 'laws.FnPieceHas': WHATEVER THE INPUT: true; the input reads as it did. -/
def fnPieceHasSpec : ChangeSpec := { name := "fnPieceHas", fn := fun _ => fun
  | [d] => { results := [.lit (.bool true)], args := [d] }
  | _ => none }
def fnPieceHasRow : OpenClaim := { program := "ytgkdelpebfgfmaa", sum := "a3c59a4b725d434539b3e147af31776f3153c251c1cfa52b78b3bd780b64814a", func := "loop.example/copiedtexts/laws.FnPieceHas", spec := "fnPieceHas", apart := false }
def FnPieceHasSaid : Prop := fnPieceHasRow.holds Try.pinned (OpenSpec.ofChange fnPieceHasSpec)

/-- ITS FALSE NEIGHBOUR: 'it returns false'. Refute it at one input. -/
def fnPieceHasWrong : ChangeSpec := { name := "fnPieceHas", fn := fun _ => fun
  | [d] => { results := [.lit (.bool false)], args := [d] }
  | _ => none }
def FnPieceHasWrongFalsely : Prop := fnPieceHasRow.holds Try.pinned (OpenSpec.ofChange fnPieceHasWrong)

/-- 'laws.FnLongestPiece': WHATEVER THE INPUT: true; the input reads as it did. -/
def fnLongestPieceSpec : ChangeSpec := { name := "fnLongestPiece", fn := fun _ => fun
  | [d] => { results := [.lit (.bool true)], args := [d] }
  | _ => none }
def fnLongestPieceRow : OpenClaim := { program := "ytgkdelpebfgfmaa", sum := "a3c59a4b725d434539b3e147af31776f3153c251c1cfa52b78b3bd780b64814a", func := "loop.example/copiedtexts/laws.FnLongestPiece", spec := "fnLongestPiece", apart := false }
def FnLongestPieceSaid : Prop := fnLongestPieceRow.holds Try.pinned (OpenSpec.ofChange fnLongestPieceSpec)

/-- ITS FALSE NEIGHBOUR: 'it returns false'. Refute it at one input. -/
def fnLongestPieceWrong : ChangeSpec := { name := "fnLongestPiece", fn := fun _ => fun
  | [d] => { results := [.lit (.bool false)], args := [d] }
  | _ => none }
def FnLongestPieceWrongFalsely : Prop := fnLongestPieceRow.holds Try.pinned (OpenSpec.ofChange fnLongestPieceWrong)

/-- 'laws.FnPiecesMore': WHATEVER THE INPUT: true; the input reads as it did. -/
def fnPiecesMoreSpec : ChangeSpec := { name := "fnPiecesMore", fn := fun _ => fun
  | [d] => { results := [.lit (.bool true)], args := [d] }
  | _ => none }
def fnPiecesMoreRow : OpenClaim := { program := "ytgkdelpebfgfmaa", sum := "a3c59a4b725d434539b3e147af31776f3153c251c1cfa52b78b3bd780b64814a", func := "loop.example/copiedtexts/laws.FnPiecesMore", spec := "fnPiecesMore", apart := false }
def FnPiecesMoreSaid : Prop := fnPiecesMoreRow.holds Try.pinned (OpenSpec.ofChange fnPiecesMoreSpec)

/-- ITS FALSE NEIGHBOUR: 'it returns false'. Refute it at one input. -/
def fnPiecesMoreWrong : ChangeSpec := { name := "fnPiecesMore", fn := fun _ => fun
  | [d] => { results := [.lit (.bool false)], args := [d] }
  | _ => none }
def FnPiecesMoreWrongFalsely : Prop := fnPiecesMoreRow.holds Try.pinned (OpenSpec.ofChange fnPiecesMoreWrong)

/-- 'laws.FnAnyPiecesOf': WHATEVER THE INPUT: true; the input reads as it did. -/
def fnAnyPiecesOfSpec : ChangeSpec := { name := "fnAnyPiecesOf", fn := fun _ => fun
  | [d1, d2, d3] => { results := [.lit (.bool true)], args := [d1, d2, d3] }
  | _ => none }
def fnAnyPiecesOfRow : OpenClaim := { program := "ytgkdelpebfgfmaa", sum := "a3c59a4b725d434539b3e147af31776f3153c251c1cfa52b78b3bd780b64814a", func := "loop.example/copiedtexts/laws.FnAnyPiecesOf", spec := "fnAnyPiecesOf", apart := false }
def FnAnyPiecesOfSaid : Prop := fnAnyPiecesOfRow.holds Try.pinned (OpenSpec.ofChange fnAnyPiecesOfSpec)

/-- ITS FALSE NEIGHBOUR: 'it returns false'. Refute it at one input. -/
def fnAnyPiecesOfWrong : ChangeSpec := { name := "fnAnyPiecesOf", fn := fun _ => fun
  | [d1, d2, d3] => { results := [.lit (.bool false)], args := [d1, d2, d3] }
  | _ => none }
def FnAnyPiecesOfWrongFalsely : Prop := fnAnyPiecesOfRow.holds Try.pinned (OpenSpec.ofChange fnAnyPiecesOfWrong)

/- THE SECOND FORM. 'bulk': how many values and letters a reading holds, each counted each time it is reached (what is shared counts as often as it is met; a slice's spare places count too). A statement '..UptoSaid' is the law's where the arguments, and the package variables that the reading takes, are together of bulk at most 1048576: NARROWER than '..Said'. Prove '..Said' where nothing that the law and all that it calls make is longer than what came in: it says more and counts as full. Else prove '..UptoSaid'. A law counts once. -/
mutual
def uptoBulk {H : Type} : DataW H → Nat
  | .lit (.string bytes) => bytes.length + 1
  | .lit _ => 1
  | .nil => 1
  | .ptr d => uptoBulk d + 1
  | .slice elems spare => uptoBulkAll elems + uptoBulkAll spare + 1
  | .agg parts => uptoBulkAll parts + 1
  | .iface _ d => uptoBulk d + 1
  | .map entries => uptoBulkEntries entries + 1
  | .held _ => 1
def uptoBulkAll {H : Type} : List (DataW H) → Nat
  | [] => 0
  | d :: r => uptoBulk d + uptoBulkAll r
def uptoBulkEntries {H : Type} : List (Lit × DataW H) → Nat
  | [] => 0
  | x :: r => uptoBulkEntry x + uptoBulkEntries r
def uptoBulkEntry {H : Type} : Lit × DataW H → Nat
  | (.string bytes, d) => bytes.length + uptoBulk d + 1
  | (_, d) => uptoBulk d + 1
 end
def uptoSmall : (H : Type) → List (DataW H) → Bool := fun _ ds => decide (uptoBulkAll ds ≤ 1048576)
def OpenSpec.upto (s : _root_.Go.ChangeSpec) : _root_.Go.OpenSpec := { _root_.Go.OpenSpec.ofChange s with cond := some uptoSmall }

/-- 'laws.FnPiecesOf', WHERE WHAT IT READS IS OF BULK AT MOST 1048576: true; the input reads as it did. -/
def fnPiecesOfUptoRow : OpenClaim := { program := "ytgkdelpebfgfmaa", sum := "a3c59a4b725d434539b3e147af31776f3153c251c1cfa52b78b3bd780b64814a", func := "loop.example/copiedtexts/laws.FnPiecesOf", spec := "fnPiecesOf", apart := false, narrowed := true }
def FnPiecesOfUptoSaid : Prop := fnPiecesOfUptoRow.holds Try.pinned (OpenSpec.upto fnPiecesOfSpec)

/-- 'laws.FnPieceOk', WHERE WHAT IT READS IS OF BULK AT MOST 1048576: true; the input reads as it did. -/
def fnPieceOkUptoRow : OpenClaim := { program := "ytgkdelpebfgfmaa", sum := "a3c59a4b725d434539b3e147af31776f3153c251c1cfa52b78b3bd780b64814a", func := "loop.example/copiedtexts/laws.FnPieceOk", spec := "fnPieceOk", apart := false, narrowed := true }
def FnPieceOkUptoSaid : Prop := fnPieceOkUptoRow.holds Try.pinned (OpenSpec.upto fnPieceOkSpec)

/-- 'laws.FnGrowPiece', WHERE WHAT IT READS IS OF BULK AT MOST 1048576: true; the input reads as it did. -/
def fnGrowPieceUptoRow : OpenClaim := { program := "ytgkdelpebfgfmaa", sum := "a3c59a4b725d434539b3e147af31776f3153c251c1cfa52b78b3bd780b64814a", func := "loop.example/copiedtexts/laws.FnGrowPiece", spec := "fnGrowPiece", apart := false, narrowed := true }
def FnGrowPieceUptoSaid : Prop := fnGrowPieceUptoRow.holds Try.pinned (OpenSpec.upto fnGrowPieceSpec)

/-- 'laws.FnPieceHas', WHERE WHAT IT READS IS OF BULK AT MOST 1048576: true; the input reads as it did. -/
def fnPieceHasUptoRow : OpenClaim := { program := "ytgkdelpebfgfmaa", sum := "a3c59a4b725d434539b3e147af31776f3153c251c1cfa52b78b3bd780b64814a", func := "loop.example/copiedtexts/laws.FnPieceHas", spec := "fnPieceHas", apart := false, narrowed := true }
def FnPieceHasUptoSaid : Prop := fnPieceHasUptoRow.holds Try.pinned (OpenSpec.upto fnPieceHasSpec)

/-- 'laws.FnLongestPiece', WHERE WHAT IT READS IS OF BULK AT MOST 1048576: true; the input reads as it did. -/
def fnLongestPieceUptoRow : OpenClaim := { program := "ytgkdelpebfgfmaa", sum := "a3c59a4b725d434539b3e147af31776f3153c251c1cfa52b78b3bd780b64814a", func := "loop.example/copiedtexts/laws.FnLongestPiece", spec := "fnLongestPiece", apart := false, narrowed := true }
def FnLongestPieceUptoSaid : Prop := fnLongestPieceUptoRow.holds Try.pinned (OpenSpec.upto fnLongestPieceSpec)

/-- 'laws.FnPiecesMore', WHERE WHAT IT READS IS OF BULK AT MOST 1048576: true; the input reads as it did. -/
def fnPiecesMoreUptoRow : OpenClaim := { program := "ytgkdelpebfgfmaa", sum := "a3c59a4b725d434539b3e147af31776f3153c251c1cfa52b78b3bd780b64814a", func := "loop.example/copiedtexts/laws.FnPiecesMore", spec := "fnPiecesMore", apart := false, narrowed := true }
def FnPiecesMoreUptoSaid : Prop := fnPiecesMoreUptoRow.holds Try.pinned (OpenSpec.upto fnPiecesMoreSpec)

/-- 'laws.FnAnyPiecesOf', WHERE WHAT IT READS IS OF BULK AT MOST 1048576: true; the input reads as it did. -/
def fnAnyPiecesOfUptoRow : OpenClaim := { program := "ytgkdelpebfgfmaa", sum := "a3c59a4b725d434539b3e147af31776f3153c251c1cfa52b78b3bd780b64814a", func := "loop.example/copiedtexts/laws.FnAnyPiecesOf", spec := "fnAnyPiecesOf", apart := false, narrowed := true }
def FnAnyPiecesOfUptoSaid : Prop := fnAnyPiecesOfUptoRow.holds Try.pinned (OpenSpec.upto fnAnyPiecesOfSpec)

end Rows
end Go.Proofs.Ytgkdelpebfgfmaa
