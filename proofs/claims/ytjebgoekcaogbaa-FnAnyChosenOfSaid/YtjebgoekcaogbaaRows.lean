/-
  No cell of these rows narrows 'for every input' (looked for: loops, veiled, ifaces, maps, wideKeys, modest, calm, conditions, laid).
  DERIVED. THE GIVEN ROWS OF THIS SEAT. 10 by the template 'for every input the law returns true; each argument reads behind the call as it read before'; 0 by the template 'total and deterministic' (their statements: YtjebgoekcaogbaaTotals.lean).
  GIVEN WITH THE SEED: the statements are not yours to turn. If you find one false, say at which input.
  Laid BY PROGRAM, IN A SANDBOX (cutbox-rows.mjs): the forced cells as the released guide's own fill.sh prints them over the translation 415ad0b3527bf92d… (all of the seat's roots in one cut). By AI agents, Wed Nov 11 2026. No macro, syntax, notation, axiom, sorry.
-/
import Derived.Test.YtjebgoekcaogbaaChecked
import GoSem.Claim
import GoSem.ClaimJoined
import GoSem.ClaimMapViews
import Derived.JoinedTies
import Derived.KernelRfl
namespace Go.Proofs.Ytjebgoekcaogbaa
/- THE CELL 'sum', in the pinned program and in every row, IS THE sha256 OF THE DUMP (.gsa) THAT YtjebgoekcaogbaaProg.lean LOADS. Nothing in Lean hashes anything: it is a label: what it is worth is what the hold of that sum in a sandbox is worth. -/
noncomputable def Try.pinned : Pinned := { name := "ytjebgoekcaogbaa", sum := "415ad0b3527bf92d82741efe2d712092fa8a309e65c3e3c6a2d8bb19e9ad36ea", checked := Try.checked }
namespace Rows
def none {H : Type} : Left H := { results := [], args := [] }

/-- 'laws.FnChosenOf': WHATEVER THE INPUT: true; the input reads as it did. -/
def fnChosenOfSpec : ChangeSpec := { name := "fnChosenOf", fn := fun _ => fun
  | [d] => { results := [.lit (.bool true)], args := [d] }
  | _ => none }
def fnChosenOfRow : OpenClaim := { program := "ytjebgoekcaogbaa", sum := "415ad0b3527bf92d82741efe2d712092fa8a309e65c3e3c6a2d8bb19e9ad36ea", func := "loop.example/copiedtexts/laws.FnChosenOf", spec := "fnChosenOf", apart := false }
def FnChosenOfSaid : Prop := fnChosenOfRow.holds Try.pinned (OpenSpec.ofChange fnChosenOfSpec)

/-- ITS FALSE NEIGHBOUR: 'it returns false'. Refute it at one input. -/
def fnChosenOfWrong : ChangeSpec := { name := "fnChosenOf", fn := fun _ => fun
  | [d] => { results := [.lit (.bool false)], args := [d] }
  | _ => none }
def FnChosenOfWrongFalsely : Prop := fnChosenOfRow.holds Try.pinned (OpenSpec.ofChange fnChosenOfWrong)

/-- 'laws.FnMarksOf': WHATEVER THE INPUT: true; the input reads as it did. -/
def fnMarksOfSpec : ChangeSpec := { name := "fnMarksOf", fn := fun _ => fun
  | [d] => { results := [.lit (.bool true)], args := [d] }
  | _ => none }
def fnMarksOfRow : OpenClaim := { program := "ytjebgoekcaogbaa", sum := "415ad0b3527bf92d82741efe2d712092fa8a309e65c3e3c6a2d8bb19e9ad36ea", func := "loop.example/copiedtexts/laws.FnMarksOf", spec := "fnMarksOf", apart := false }
def FnMarksOfSaid : Prop := fnMarksOfRow.holds Try.pinned (OpenSpec.ofChange fnMarksOfSpec)

/-- ITS FALSE NEIGHBOUR: 'it returns false'. Refute it at one input. -/
def fnMarksOfWrong : ChangeSpec := { name := "fnMarksOf", fn := fun _ => fun
  | [d] => { results := [.lit (.bool false)], args := [d] }
  | _ => none }
def FnMarksOfWrongFalsely : Prop := fnMarksOfRow.holds Try.pinned (OpenSpec.ofChange fnMarksOfWrong)

/-- 'laws.FnMarksShared': WHATEVER THE INPUT: true; the input reads as it did. -/
def fnMarksSharedSpec : ChangeSpec := { name := "fnMarksShared", fn := fun _ => fun
  | [d] => { results := [.lit (.bool true)], args := [d] }
  | _ => none }
def fnMarksSharedRow : OpenClaim := { program := "ytjebgoekcaogbaa", sum := "415ad0b3527bf92d82741efe2d712092fa8a309e65c3e3c6a2d8bb19e9ad36ea", func := "loop.example/copiedtexts/laws.FnMarksShared", spec := "fnMarksShared", apart := false }
def FnMarksSharedSaid : Prop := fnMarksSharedRow.holds Try.pinned (OpenSpec.ofChange fnMarksSharedSpec)

/-- ITS FALSE NEIGHBOUR: 'it returns false'. Refute it at one input. -/
def fnMarksSharedWrong : ChangeSpec := { name := "fnMarksShared", fn := fun _ => fun
  | [d] => { results := [.lit (.bool false)], args := [d] }
  | _ => none }
def FnMarksSharedWrongFalsely : Prop := fnMarksSharedRow.holds Try.pinned (OpenSpec.ofChange fnMarksSharedWrong)

/-- 'laws.FnMarksPiece': WHATEVER THE INPUT: true; the input reads as it did. -/
def fnMarksPieceSpec : ChangeSpec := { name := "fnMarksPiece", fn := fun _ => fun
  | [d] => { results := [.lit (.bool true)], args := [d] }
  | _ => none }
def fnMarksPieceRow : OpenClaim := { program := "ytjebgoekcaogbaa", sum := "415ad0b3527bf92d82741efe2d712092fa8a309e65c3e3c6a2d8bb19e9ad36ea", func := "loop.example/copiedtexts/laws.FnMarksPiece", spec := "fnMarksPiece", apart := false }
def FnMarksPieceSaid : Prop := fnMarksPieceRow.holds Try.pinned (OpenSpec.ofChange fnMarksPieceSpec)

/-- ITS FALSE NEIGHBOUR: 'it returns false'. Refute it at one input. -/
def fnMarksPieceWrong : ChangeSpec := { name := "fnMarksPiece", fn := fun _ => fun
  | [d] => { results := [.lit (.bool false)], args := [d] }
  | _ => none }
def FnMarksPieceWrongFalsely : Prop := fnMarksPieceRow.holds Try.pinned (OpenSpec.ofChange fnMarksPieceWrong)

/-- 'laws.FnSureLength': WHATEVER THE INPUT: true; the input reads as it did. -/
def fnSureLengthSpec : ChangeSpec := { name := "fnSureLength", fn := fun _ => fun
  | [d] => { results := [.lit (.bool true)], args := [d] }
  | _ => none }
def fnSureLengthRow : OpenClaim := { program := "ytjebgoekcaogbaa", sum := "415ad0b3527bf92d82741efe2d712092fa8a309e65c3e3c6a2d8bb19e9ad36ea", func := "loop.example/copiedtexts/laws.FnSureLength", spec := "fnSureLength", apart := false }
def FnSureLengthSaid : Prop := fnSureLengthRow.holds Try.pinned (OpenSpec.ofChange fnSureLengthSpec)

/-- ITS FALSE NEIGHBOUR: 'it returns false'. Refute it at one input. -/
def fnSureLengthWrong : ChangeSpec := { name := "fnSureLength", fn := fun _ => fun
  | [d] => { results := [.lit (.bool false)], args := [d] }
  | _ => none }
def FnSureLengthWrongFalsely : Prop := fnSureLengthRow.holds Try.pinned (OpenSpec.ofChange fnSureLengthWrong)

/-- 'laws.FnTwinsOf': WHATEVER THE INPUT: true; the input reads as it did. -/
def fnTwinsOfSpec : ChangeSpec := { name := "fnTwinsOf", fn := fun _ => fun
  | [d] => { results := [.lit (.bool true)], args := [d] }
  | _ => none }
def fnTwinsOfRow : OpenClaim := { program := "ytjebgoekcaogbaa", sum := "415ad0b3527bf92d82741efe2d712092fa8a309e65c3e3c6a2d8bb19e9ad36ea", func := "loop.example/copiedtexts/laws.FnTwinsOf", spec := "fnTwinsOf", apart := false }
def FnTwinsOfSaid : Prop := fnTwinsOfRow.holds Try.pinned (OpenSpec.ofChange fnTwinsOfSpec)

/-- ITS FALSE NEIGHBOUR: 'it returns false'. Refute it at one input. -/
def fnTwinsOfWrong : ChangeSpec := { name := "fnTwinsOf", fn := fun _ => fun
  | [d] => { results := [.lit (.bool false)], args := [d] }
  | _ => none }
def FnTwinsOfWrongFalsely : Prop := fnTwinsOfRow.holds Try.pinned (OpenSpec.ofChange fnTwinsOfWrong)

/-- 'laws.FnMarksAfter': WHATEVER THE INPUT: true; the input reads as it did. -/
def fnMarksAfterSpec : ChangeSpec := { name := "fnMarksAfter", fn := fun _ => fun
  | [d] => { results := [.lit (.bool true)], args := [d] }
  | _ => none }
def fnMarksAfterRow : OpenClaim := { program := "ytjebgoekcaogbaa", sum := "415ad0b3527bf92d82741efe2d712092fa8a309e65c3e3c6a2d8bb19e9ad36ea", func := "loop.example/copiedtexts/laws.FnMarksAfter", spec := "fnMarksAfter", apart := false }
def FnMarksAfterSaid : Prop := fnMarksAfterRow.holds Try.pinned (OpenSpec.ofChange fnMarksAfterSpec)

/-- ITS FALSE NEIGHBOUR: 'it returns false'. Refute it at one input. -/
def fnMarksAfterWrong : ChangeSpec := { name := "fnMarksAfter", fn := fun _ => fun
  | [d] => { results := [.lit (.bool false)], args := [d] }
  | _ => none }
def FnMarksAfterWrongFalsely : Prop := fnMarksAfterRow.holds Try.pinned (OpenSpec.ofChange fnMarksAfterWrong)

/-- 'laws.FnAnyChosenOf': WHATEVER THE INPUT: true; the input reads as it did. -/
def fnAnyChosenOfSpec : ChangeSpec := { name := "fnAnyChosenOf", fn := fun _ => fun
  | [d1, d2] => { results := [.lit (.bool true)], args := [d1, d2] }
  | _ => none }
def fnAnyChosenOfRow : OpenClaim := { program := "ytjebgoekcaogbaa", sum := "415ad0b3527bf92d82741efe2d712092fa8a309e65c3e3c6a2d8bb19e9ad36ea", func := "loop.example/copiedtexts/laws.FnAnyChosenOf", spec := "fnAnyChosenOf", apart := false }
def FnAnyChosenOfSaid : Prop := fnAnyChosenOfRow.holds Try.pinned (OpenSpec.ofChange fnAnyChosenOfSpec)

/-- ITS FALSE NEIGHBOUR: 'it returns false'. Refute it at one input. -/
def fnAnyChosenOfWrong : ChangeSpec := { name := "fnAnyChosenOf", fn := fun _ => fun
  | [d1, d2] => { results := [.lit (.bool false)], args := [d1, d2] }
  | _ => none }
def FnAnyChosenOfWrongFalsely : Prop := fnAnyChosenOfRow.holds Try.pinned (OpenSpec.ofChange fnAnyChosenOfWrong)

/-- 'laws.FnAnyMarksShared': WHATEVER THE INPUT: true; the input reads as it did. -/
def fnAnyMarksSharedSpec : ChangeSpec := { name := "fnAnyMarksShared", fn := fun _ => fun
  | [d1, d2, d3, d4] => { results := [.lit (.bool true)], args := [d1, d2, d3, d4] }
  | _ => none }
def fnAnyMarksSharedRow : OpenClaim := { program := "ytjebgoekcaogbaa", sum := "415ad0b3527bf92d82741efe2d712092fa8a309e65c3e3c6a2d8bb19e9ad36ea", func := "loop.example/copiedtexts/laws.FnAnyMarksShared", spec := "fnAnyMarksShared", apart := false }
def FnAnyMarksSharedSaid : Prop := fnAnyMarksSharedRow.holds Try.pinned (OpenSpec.ofChange fnAnyMarksSharedSpec)

/-- ITS FALSE NEIGHBOUR: 'it returns false'. Refute it at one input. -/
def fnAnyMarksSharedWrong : ChangeSpec := { name := "fnAnyMarksShared", fn := fun _ => fun
  | [d1, d2, d3, d4] => { results := [.lit (.bool false)], args := [d1, d2, d3, d4] }
  | _ => none }
def FnAnyMarksSharedWrongFalsely : Prop := fnAnyMarksSharedRow.holds Try.pinned (OpenSpec.ofChange fnAnyMarksSharedWrong)

/-- 'laws.FnAnyMarksAfter': WHATEVER THE INPUT: true; the input reads as it did. -/
def fnAnyMarksAfterSpec : ChangeSpec := { name := "fnAnyMarksAfter", fn := fun _ => fun
  | [d1, d2, d3, d4] => { results := [.lit (.bool true)], args := [d1, d2, d3, d4] }
  | _ => none }
def fnAnyMarksAfterRow : OpenClaim := { program := "ytjebgoekcaogbaa", sum := "415ad0b3527bf92d82741efe2d712092fa8a309e65c3e3c6a2d8bb19e9ad36ea", func := "loop.example/copiedtexts/laws.FnAnyMarksAfter", spec := "fnAnyMarksAfter", apart := false }
def FnAnyMarksAfterSaid : Prop := fnAnyMarksAfterRow.holds Try.pinned (OpenSpec.ofChange fnAnyMarksAfterSpec)

/-- ITS FALSE NEIGHBOUR: 'it returns false'. Refute it at one input. -/
def fnAnyMarksAfterWrong : ChangeSpec := { name := "fnAnyMarksAfter", fn := fun _ => fun
  | [d1, d2, d3, d4] => { results := [.lit (.bool false)], args := [d1, d2, d3, d4] }
  | _ => none }
def FnAnyMarksAfterWrongFalsely : Prop := fnAnyMarksAfterRow.holds Try.pinned (OpenSpec.ofChange fnAnyMarksAfterWrong)

/- THE SECOND FORM. 'bulk': how many values and letters a reading holds, each counted each time it is reached (what is shared counts as often as it is met; a slice's spare places count too). A statement '..UptoSaid' is the law's where the arguments, and the package variables that the reading takes, are together of bulk at most 1048576: NARROWER than '..Said'. Prove '..Said' where nothing that the law and all that it calls make is longer than what came in: it says more and counts as full. Else prove '..UptoSaid'. A law counts once. -/
mutual
def uptoBulk {H : Type} : DataW H → Nat
  | .lit (.string bytes) => bytes.length + 1
  | .lit _ => 1
  | .nil => 1
  | .ptr d => uptoBulk d + 1
  | .slice elems spare => uptoBulkAll elems + uptoBulkAll spare + 1
  | .agg parts => uptoBulkAll parts + 1
  | .iface _ d => uptoBulk d + 1
  | .map entries => uptoBulkEntries entries + 1
  | .held _ => 1
def uptoBulkAll {H : Type} : List (DataW H) → Nat
  | [] => 0
  | d :: r => uptoBulk d + uptoBulkAll r
def uptoBulkEntries {H : Type} : List (Lit × DataW H) → Nat
  | [] => 0
  | x :: r => uptoBulkEntry x + uptoBulkEntries r
def uptoBulkEntry {H : Type} : Lit × DataW H → Nat
  | (.string bytes, d) => bytes.length + uptoBulk d + 1
  | (_, d) => uptoBulk d + 1
 end
def uptoSmall : (H : Type) → List (DataW H) → Bool := fun _ ds => decide (uptoBulkAll ds ≤ 1048576)
def OpenSpec.upto (s : _root_.Go.ChangeSpec) : _root_.Go.OpenSpec := { _root_.Go.OpenSpec.ofChange s with cond := some uptoSmall }

/-- 'laws.FnChosenOf', WHERE WHAT IT READS IS OF BULK AT MOST 1048576: true; the input reads as it did. -/
def fnChosenOfUptoRow : OpenClaim := { program := "ytjebgoekcaogbaa", sum := "415ad0b3527bf92d82741efe2d712092fa8a309e65c3e3c6a2d8bb19e9ad36ea", func := "loop.example/copiedtexts/laws.FnChosenOf", spec := "fnChosenOf", apart := false, narrowed := true }
def FnChosenOfUptoSaid : Prop := fnChosenOfUptoRow.holds Try.pinned (OpenSpec.upto fnChosenOfSpec)

/-- 'laws.FnMarksOf', WHERE WHAT IT READS IS OF BULK AT MOST 1048576: true; the input reads as it did. -/
def fnMarksOfUptoRow : OpenClaim := { program := "ytjebgoekcaogbaa", sum := "415ad0b3527bf92d82741efe2d712092fa8a309e65c3e3c6a2d8bb19e9ad36ea", func := "loop.example/copiedtexts/laws.FnMarksOf", spec := "fnMarksOf", apart := false, narrowed := true }
def FnMarksOfUptoSaid : Prop := fnMarksOfUptoRow.holds Try.pinned (OpenSpec.upto fnMarksOfSpec)

/-- 'laws.FnMarksShared', WHERE WHAT IT READS IS OF BULK AT MOST 1048576: true; the input reads as it did. -/
def fnMarksSharedUptoRow : OpenClaim := { program := "ytjebgoekcaogbaa", sum := "415ad0b3527bf92d82741efe2d712092fa8a309e65c3e3c6a2d8bb19e9ad36ea", func := "loop.example/copiedtexts/laws.FnMarksShared", spec := "fnMarksShared", apart := false, narrowed := true }
def FnMarksSharedUptoSaid : Prop := fnMarksSharedUptoRow.holds Try.pinned (OpenSpec.upto fnMarksSharedSpec)

/-- 'laws.FnMarksPiece', WHERE WHAT IT READS IS OF BULK AT MOST 1048576: true; the input reads as it did. -/
def fnMarksPieceUptoRow : OpenClaim := { program := "ytjebgoekcaogbaa", sum := "415ad0b3527bf92d82741efe2d712092fa8a309e65c3e3c6a2d8bb19e9ad36ea", func := "loop.example/copiedtexts/laws.FnMarksPiece", spec := "fnMarksPiece", apart := false, narrowed := true }
def FnMarksPieceUptoSaid : Prop := fnMarksPieceUptoRow.holds Try.pinned (OpenSpec.upto fnMarksPieceSpec)

/-- 'laws.FnSureLength', WHERE WHAT IT READS IS OF BULK AT MOST 1048576: true; the input reads as it did. -/
def fnSureLengthUptoRow : OpenClaim := { program := "ytjebgoekcaogbaa", sum := "415ad0b3527bf92d82741efe2d712092fa8a309e65c3e3c6a2d8bb19e9ad36ea", func := "loop.example/copiedtexts/laws.FnSureLength", spec := "fnSureLength", apart := false, narrowed := true }
def FnSureLengthUptoSaid : Prop := fnSureLengthUptoRow.holds Try.pinned (OpenSpec.upto fnSureLengthSpec)

/-- 'laws.FnTwinsOf', WHERE WHAT IT READS IS OF BULK AT MOST 1048576: true; the input reads as it did. -/
def fnTwinsOfUptoRow : OpenClaim := { program := "ytjebgoekcaogbaa", sum := "415ad0b3527bf92d82741efe2d712092fa8a309e65c3e3c6a2d8bb19e9ad36ea", func := "loop.example/copiedtexts/laws.FnTwinsOf", spec := "fnTwinsOf", apart := false, narrowed := true }
def FnTwinsOfUptoSaid : Prop := fnTwinsOfUptoRow.holds Try.pinned (OpenSpec.upto fnTwinsOfSpec)

/-- 'laws.FnMarksAfter', WHERE WHAT IT READS IS OF BULK AT MOST 1048576: true; the input reads as it did. -/
def fnMarksAfterUptoRow : OpenClaim := { program := "ytjebgoekcaogbaa", sum := "415ad0b3527bf92d82741efe2d712092fa8a309e65c3e3c6a2d8bb19e9ad36ea", func := "loop.example/copiedtexts/laws.FnMarksAfter", spec := "fnMarksAfter", apart := false, narrowed := true }
def FnMarksAfterUptoSaid : Prop := fnMarksAfterUptoRow.holds Try.pinned (OpenSpec.upto fnMarksAfterSpec)

/-- 'laws.FnAnyChosenOf', WHERE WHAT IT READS IS OF BULK AT MOST 1048576: true; the input reads as it did. -/
def fnAnyChosenOfUptoRow : OpenClaim := { program := "ytjebgoekcaogbaa", sum := "415ad0b3527bf92d82741efe2d712092fa8a309e65c3e3c6a2d8bb19e9ad36ea", func := "loop.example/copiedtexts/laws.FnAnyChosenOf", spec := "fnAnyChosenOf", apart := false, narrowed := true }
def FnAnyChosenOfUptoSaid : Prop := fnAnyChosenOfUptoRow.holds Try.pinned (OpenSpec.upto fnAnyChosenOfSpec)

/-- 'laws.FnAnyMarksShared', WHERE WHAT IT READS IS OF BULK AT MOST 1048576: true; the input reads as it did. -/
def fnAnyMarksSharedUptoRow : OpenClaim := { program := "ytjebgoekcaogbaa", sum := "415ad0b3527bf92d82741efe2d712092fa8a309e65c3e3c6a2d8bb19e9ad36ea", func := "loop.example/copiedtexts/laws.FnAnyMarksShared", spec := "fnAnyMarksShared", apart := false, narrowed := true }
def FnAnyMarksSharedUptoSaid : Prop := fnAnyMarksSharedUptoRow.holds Try.pinned (OpenSpec.upto fnAnyMarksSharedSpec)

/-- 'laws.FnAnyMarksAfter', WHERE WHAT IT READS IS OF BULK AT MOST 1048576: true; the input reads as it did. -/
def fnAnyMarksAfterUptoRow : OpenClaim := { program := "ytjebgoekcaogbaa", sum := "415ad0b3527bf92d82741efe2d712092fa8a309e65c3e3c6a2d8bb19e9ad36ea", func := "loop.example/copiedtexts/laws.FnAnyMarksAfter", spec := "fnAnyMarksAfter", apart := false, narrowed := true }
def FnAnyMarksAfterUptoSaid : Prop := fnAnyMarksAfterUptoRow.holds Try.pinned (OpenSpec.upto fnAnyMarksAfterSpec)

end Rows
end Go.Proofs.Ytjebgoekcaogbaa
