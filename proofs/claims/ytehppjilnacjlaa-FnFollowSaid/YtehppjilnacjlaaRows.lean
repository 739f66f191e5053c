/-
  No cell of these rows narrows 'for every input' (looked for: loops, veiled, ifaces, maps, wideKeys, modest, calm, conditions, laid).
  DERIVED. THE GIVEN ROWS OF THIS SEAT. 11 by the template 'for every input the law returns true; each argument reads behind the call as it read before'; 0 by the template 'total and deterministic' (their statements: YtehppjilnacjlaaTotals.lean).
  GIVEN WITH THE SEED: the statements are not yours to turn. If you find one false, say at which input.
  Laid BY PROGRAM, IN A SANDBOX (cutbox-rows.mjs): the forced cells as the released guide's own fill.sh prints them over the translation 8e082454376b616e… (all of the seat's roots in one cut). By AI agents, Wed Nov 11 2026. No macro, syntax, notation, axiom, sorry.
-/
import Derived.Test.YtehppjilnacjlaaChecked
import GoSem.Claim
import GoSem.ClaimJoined
import GoSem.ClaimMapViews
import Derived.JoinedTies
import Derived.KernelRfl
namespace Go.Proofs.Ytehppjilnacjlaa
/- THE CELL 'sum', in the pinned program and in every row, IS THE sha256 OF THE DUMP (.gsa) THAT YtehppjilnacjlaaProg.lean LOADS. Nothing in Lean hashes anything: it is a label: what it is worth is what the hold of that sum in a sandbox is worth. -/
noncomputable def Try.pinned : Pinned := { name := "ytehppjilnacjlaa", sum := "8e082454376b616e440269434a7726ae5648de45f07119103f1080ae94551565", checked := Try.checked }
namespace Rows
def none {H : Type} : Left H := { results := [], args := [] }

/-- 'laws.FnMachineOf': WHATEVER THE INPUT: true; the input reads as it did. -/
def fnMachineOfSpec : ChangeSpec := { name := "fnMachineOf", fn := fun _ => fun
  | [d] => { results := [.lit (.bool true)], args := [d] }
  | _ => none }
def fnMachineOfRow : OpenClaim := { program := "ytehppjilnacjlaa", sum := "8e082454376b616e440269434a7726ae5648de45f07119103f1080ae94551565", func := "loop.example/copiedtexts/laws.FnMachineOf", spec := "fnMachineOf", apart := false }
def FnMachineOfSaid : Prop := fnMachineOfRow.holds Try.pinned (OpenSpec.ofChange fnMachineOfSpec)

/-- ITS FALSE NEIGHBOUR: 'it returns false'. Refute it at one input. -/
def fnMachineOfWrong : ChangeSpec := { name := "fnMachineOf", fn := fun _ => fun
  | [d] => { results := [.lit (.bool false)], args := [d] }
  | _ => none }
def FnMachineOfWrongFalsely : Prop := fnMachineOfRow.holds Try.pinned (OpenSpec.ofChange fnMachineOfWrong)

/-- 'laws.FnFollow': WHATEVER THE INPUT: true; the input reads as it did. -/
def fnFollowSpec : ChangeSpec := { name := "fnFollow", fn := fun _ => fun
  | [d] => { results := [.lit (.bool true)], args := [d] }
  | _ => none }
def fnFollowRow : OpenClaim := { program := "ytehppjilnacjlaa", sum := "8e082454376b616e440269434a7726ae5648de45f07119103f1080ae94551565", func := "loop.example/copiedtexts/laws.FnFollow", spec := "fnFollow", apart := false }
def FnFollowSaid : Prop := fnFollowRow.holds Try.pinned (OpenSpec.ofChange fnFollowSpec)

/-- ITS FALSE NEIGHBOUR: 'it returns false'. Refute it at one input. -/
def fnFollowWrong : ChangeSpec := { name := "fnFollow", fn := fun _ => fun
  | [d] => { results := [.lit (.bool false)], args := [d] }
  | _ => none }
def FnFollowWrongFalsely : Prop := fnFollowRow.holds Try.pinned (OpenSpec.ofChange fnFollowWrong)

/-- 'laws.FnHasPiece': WHATEVER THE INPUT: true; the input reads as it did. -/
def fnHasPieceSpec : ChangeSpec := { name := "fnHasPiece", fn := fun _ => fun
  | [d] => { results := [.lit (.bool true)], args := [d] }
  | _ => none }
def fnHasPieceRow : OpenClaim := { program := "ytehppjilnacjlaa", sum := "8e082454376b616e440269434a7726ae5648de45f07119103f1080ae94551565", func := "loop.example/copiedtexts/laws.FnHasPiece", spec := "fnHasPiece", apart := false }
def FnHasPieceSaid : Prop := fnHasPieceRow.holds Try.pinned (OpenSpec.ofChange fnHasPieceSpec)

/-- ITS FALSE NEIGHBOUR: 'it returns false'. Refute it at one input. -/
def fnHasPieceWrong : ChangeSpec := { name := "fnHasPiece", fn := fun _ => fun
  | [d] => { results := [.lit (.bool false)], args := [d] }
  | _ => none }
def FnHasPieceWrongFalsely : Prop := fnHasPieceRow.holds Try.pinned (OpenSpec.ofChange fnHasPieceWrong)

/-- 'laws.FnSameEnds': WHATEVER THE INPUT: true; the input reads as it did. -/
def fnSameEndsSpec : ChangeSpec := { name := "fnSameEnds", fn := fun _ => fun
  | [d] => { results := [.lit (.bool true)], args := [d] }
  | _ => none }
def fnSameEndsRow : OpenClaim := { program := "ytehppjilnacjlaa", sum := "8e082454376b616e440269434a7726ae5648de45f07119103f1080ae94551565", func := "loop.example/copiedtexts/laws.FnSameEnds", spec := "fnSameEnds", apart := false }
def FnSameEndsSaid : Prop := fnSameEndsRow.holds Try.pinned (OpenSpec.ofChange fnSameEndsSpec)

/-- ITS FALSE NEIGHBOUR: 'it returns false'. Refute it at one input. -/
def fnSameEndsWrong : ChangeSpec := { name := "fnSameEnds", fn := fun _ => fun
  | [d] => { results := [.lit (.bool false)], args := [d] }
  | _ => none }
def FnSameEndsWrongFalsely : Prop := fnSameEndsRow.holds Try.pinned (OpenSpec.ofChange fnSameEndsWrong)

/-- 'laws.FnCountPieces': WHATEVER THE INPUT: true; the input reads as it did. -/
def fnCountPiecesSpec : ChangeSpec := { name := "fnCountPieces", fn := fun _ => fun
  | [d] => { results := [.lit (.bool true)], args := [d] }
  | _ => none }
def fnCountPiecesRow : OpenClaim := { program := "ytehppjilnacjlaa", sum := "8e082454376b616e440269434a7726ae5648de45f07119103f1080ae94551565", func := "loop.example/copiedtexts/laws.FnCountPieces", spec := "fnCountPieces", apart := false }
def FnCountPiecesSaid : Prop := fnCountPiecesRow.holds Try.pinned (OpenSpec.ofChange fnCountPiecesSpec)

/-- ITS FALSE NEIGHBOUR: 'it returns false'. Refute it at one input. -/
def fnCountPiecesWrong : ChangeSpec := { name := "fnCountPieces", fn := fun _ => fun
  | [d] => { results := [.lit (.bool false)], args := [d] }
  | _ => none }
def FnCountPiecesWrongFalsely : Prop := fnCountPiecesRow.holds Try.pinned (OpenSpec.ofChange fnCountPiecesWrong)

/-- 'laws.FnLongestEnds': WHATEVER THE INPUT: true; the input reads as it did. -/
def fnLongestEndsSpec : ChangeSpec := { name := "fnLongestEnds", fn := fun _ => fun
  | [d] => { results := [.lit (.bool true)], args := [d] }
  | _ => none }
def fnLongestEndsRow : OpenClaim := { program := "ytehppjilnacjlaa", sum := "8e082454376b616e440269434a7726ae5648de45f07119103f1080ae94551565", func := "loop.example/copiedtexts/laws.FnLongestEnds", spec := "fnLongestEnds", apart := false }
def FnLongestEndsSaid : Prop := fnLongestEndsRow.holds Try.pinned (OpenSpec.ofChange fnLongestEndsSpec)

/-- ITS FALSE NEIGHBOUR: 'it returns false'. Refute it at one input. -/
def fnLongestEndsWrong : ChangeSpec := { name := "fnLongestEnds", fn := fun _ => fun
  | [d] => { results := [.lit (.bool false)], args := [d] }
  | _ => none }
def FnLongestEndsWrongFalsely : Prop := fnLongestEndsRow.holds Try.pinned (OpenSpec.ofChange fnLongestEndsWrong)

/-- 'laws.FnHowOften': WHATEVER THE INPUT: true; the input reads as it did. -/
def fnHowOftenSpec : ChangeSpec := { name := "fnHowOften", fn := fun _ => fun
  | [d] => { results := [.lit (.bool true)], args := [d] }
  | _ => none }
def fnHowOftenRow : OpenClaim := { program := "ytehppjilnacjlaa", sum := "8e082454376b616e440269434a7726ae5648de45f07119103f1080ae94551565", func := "loop.example/copiedtexts/laws.FnHowOften", spec := "fnHowOften", apart := false }
def FnHowOftenSaid : Prop := fnHowOftenRow.holds Try.pinned (OpenSpec.ofChange fnHowOftenSpec)

/-- ITS FALSE NEIGHBOUR: 'it returns false'. Refute it at one input. -/
def fnHowOftenWrong : ChangeSpec := { name := "fnHowOften", fn := fun _ => fun
  | [d] => { results := [.lit (.bool false)], args := [d] }
  | _ => none }
def FnHowOftenWrongFalsely : Prop := fnHowOftenRow.holds Try.pinned (OpenSpec.ofChange fnHowOftenWrong)

/-- 'laws.FnAnyMachineOf': WHATEVER THE INPUT: true; the input reads as it did. -/
def fnAnyMachineOfSpec : ChangeSpec := { name := "fnAnyMachineOf", fn := fun _ => fun
  | [d] => { results := [.lit (.bool true)], args := [d] }
  | _ => none }
def fnAnyMachineOfRow : OpenClaim := { program := "ytehppjilnacjlaa", sum := "8e082454376b616e440269434a7726ae5648de45f07119103f1080ae94551565", func := "loop.example/copiedtexts/laws.FnAnyMachineOf", spec := "fnAnyMachineOf", apart := false }
def FnAnyMachineOfSaid : Prop := fnAnyMachineOfRow.holds Try.pinned (OpenSpec.ofChange fnAnyMachineOfSpec)

/-- ITS FALSE NEIGHBOUR: 'it returns false'. Refute it at one input. -/
def fnAnyMachineOfWrong : ChangeSpec := { name := "fnAnyMachineOf", fn := fun _ => fun
  | [d] => { results := [.lit (.bool false)], args := [d] }
  | _ => none }
def FnAnyMachineOfWrongFalsely : Prop := fnAnyMachineOfRow.holds Try.pinned (OpenSpec.ofChange fnAnyMachineOfWrong)

/-- 'laws.FnAnyHasPiece': WHATEVER THE INPUT: true; the input reads as it did. -/
def fnAnyHasPieceSpec : ChangeSpec := { name := "fnAnyHasPiece", fn := fun _ => fun
  | [d1, d2] => { results := [.lit (.bool true)], args := [d1, d2] }
  | _ => none }
def fnAnyHasPieceRow : OpenClaim := { program := "ytehppjilnacjlaa", sum := "8e082454376b616e440269434a7726ae5648de45f07119103f1080ae94551565", func := "loop.example/copiedtexts/laws.FnAnyHasPiece", spec := "fnAnyHasPiece", apart := false }
def FnAnyHasPieceSaid : Prop := fnAnyHasPieceRow.holds Try.pinned (OpenSpec.ofChange fnAnyHasPieceSpec)

/-- ITS FALSE NEIGHBOUR: 'it returns false'. Refute it at one input. -/
def fnAnyHasPieceWrong : ChangeSpec := { name := "fnAnyHasPiece", fn := fun _ => fun
  | [d1, d2] => { results := [.lit (.bool false)], args := [d1, d2] }
  | _ => none }
def FnAnyHasPieceWrongFalsely : Prop := fnAnyHasPieceRow.holds Try.pinned (OpenSpec.ofChange fnAnyHasPieceWrong)

/-- 'laws.FnAnySameEnds': WHATEVER THE INPUT: true; the input reads as it did. -/
def fnAnySameEndsSpec : ChangeSpec := { name := "fnAnySameEnds", fn := fun _ => fun
  | [d] => { results := [.lit (.bool true)], args := [d] }
  | _ => none }
def fnAnySameEndsRow : OpenClaim := { program := "ytehppjilnacjlaa", sum := "8e082454376b616e440269434a7726ae5648de45f07119103f1080ae94551565", func := "loop.example/copiedtexts/laws.FnAnySameEnds", spec := "fnAnySameEnds", apart := false }
def FnAnySameEndsSaid : Prop := fnAnySameEndsRow.holds Try.pinned (OpenSpec.ofChange fnAnySameEndsSpec)

/-- ITS FALSE NEIGHBOUR: 'it returns false'. Refute it at one input. -/
def fnAnySameEndsWrong : ChangeSpec := { name := "fnAnySameEnds", fn := fun _ => fun
  | [d] => { results := [.lit (.bool false)], args := [d] }
  | _ => none }
def FnAnySameEndsWrongFalsely : Prop := fnAnySameEndsRow.holds Try.pinned (OpenSpec.ofChange fnAnySameEndsWrong)

/-- 'laws.FnAnyLongestEnds': WHATEVER THE INPUT: true; the input reads as it did. -/
def fnAnyLongestEndsSpec : ChangeSpec := { name := "fnAnyLongestEnds", fn := fun _ => fun
  | [d1, d2] => { results := [.lit (.bool true)], args := [d1, d2] }
  | _ => none }
def fnAnyLongestEndsRow : OpenClaim := { program := "ytehppjilnacjlaa", sum := "8e082454376b616e440269434a7726ae5648de45f07119103f1080ae94551565", func := "loop.example/copiedtexts/laws.FnAnyLongestEnds", spec := "fnAnyLongestEnds", apart := false }
def FnAnyLongestEndsSaid : Prop := fnAnyLongestEndsRow.holds Try.pinned (OpenSpec.ofChange fnAnyLongestEndsSpec)

/-- ITS FALSE NEIGHBOUR: 'it returns false'. Refute it at one input. -/
def fnAnyLongestEndsWrong : ChangeSpec := { name := "fnAnyLongestEnds", fn := fun _ => fun
  | [d1, d2] => { results := [.lit (.bool false)], args := [d1, d2] }
  | _ => none }
def FnAnyLongestEndsWrongFalsely : Prop := fnAnyLongestEndsRow.holds Try.pinned (OpenSpec.ofChange fnAnyLongestEndsWrong)

/- THE SECOND FORM. 'bulk': how many values and letters a reading holds, each counted each time it is reached (what is shared counts as often as it is met; a slice's spare places count too). A statement '..UptoSaid' is the law's where the arguments, and the package variables that the reading takes, are together of bulk at most 1048576: NARROWER than '..Said'. Prove '..Said' where nothing that the law and all that it calls make is longer than what came in: it says more and counts as full. Else prove '..UptoSaid'. A law counts once. -/
mutual
def uptoBulk {H : Type} : DataW H → Nat
  | .lit (.string bytes) => bytes.length + 1
  | .lit _ => 1
  | .nil => 1
  | .ptr d => uptoBulk d + 1
  | .slice elems spare => uptoBulkAll elems + uptoBulkAll spare + 1
  | .agg parts => uptoBulkAll parts + 1
  | .iface _ d => uptoBulk d + 1
  | .map entries => uptoBulkEntries entries + 1
  | .held _ => 1
def uptoBulkAll {H : Type} : List (DataW H) → Nat
  | [] => 0
  | d :: r => uptoBulk d + uptoBulkAll r
def uptoBulkEntries {H : Type} : List (Lit × DataW H) → Nat
  | [] => 0
  | x :: r => uptoBulkEntry x + uptoBulkEntries r
def uptoBulkEntry {H : Type} : Lit × DataW H → Nat
  | (.string bytes, d) => bytes.length + uptoBulk d + 1
  | (_, d) => uptoBulk d + 1
 end
def uptoSmall : (H : Type) → List (DataW H) → Bool := fun _ ds => decide (uptoBulkAll ds ≤ 1048576)
def OpenSpec.upto (s : _root_.Go.ChangeSpec) : _root_.Go.OpenSpec := { _root_.Go.OpenSpec.ofChange s with cond := some uptoSmall }

/-- 'laws.FnMachineOf', WHERE WHAT IT READS IS OF BULK AT MOST 1048576: true; the input reads as it did. -/
def fnMachineOfUptoRow : OpenClaim := { program := "ytehppjilnacjlaa", sum := "8e082454376b616e440269434a7726ae5648de45f07119103f1080ae94551565", func := "loop.example/copiedtexts/laws.FnMachineOf", spec := "fnMachineOf", apart := false, narrowed := true }
def FnMachineOfUptoSaid : Prop := fnMachineOfUptoRow.holds Try.pinned (OpenSpec.upto fnMachineOfSpec)

/-- 'laws.FnFollow', WHERE WHAT IT READS IS OF BULK AT MOST 1048576: true; the input reads as it did. -/
def fnFollowUptoRow : OpenClaim := { program := "ytehppjilnacjlaa", sum := "8e082454376b616e440269434a7726ae5648de45f07119103f1080ae94551565", func := "loop.example/copiedtexts/laws.FnFollow", spec := "fnFollow", apart := false, narrowed := true }
def FnFollowUptoSaid : Prop := fnFollowUptoRow.holds Try.pinned (OpenSpec.upto fnFollowSpec)

/-- 'laws.FnHasPiece', WHERE WHAT IT READS IS OF BULK AT MOST 1048576: true; the input reads as it did. -/
def fnHasPieceUptoRow : OpenClaim := { program := "ytehppjilnacjlaa", sum := "8e082454376b616e440269434a7726ae5648de45f07119103f1080ae94551565", func := "loop.example/copiedtexts/laws.FnHasPiece", spec := "fnHasPiece", apart := false, narrowed := true }
def FnHasPieceUptoSaid : Prop := fnHasPieceUptoRow.holds Try.pinned (OpenSpec.upto fnHasPieceSpec)

/-- 'laws.FnSameEnds', WHERE WHAT IT READS IS OF BULK AT MOST 1048576: true; the input reads as it did. -/
def fnSameEndsUptoRow : OpenClaim := { program := "ytehppjilnacjlaa", sum := "8e082454376b616e440269434a7726ae5648de45f07119103f1080ae94551565", func := "loop.example/copiedtexts/laws.FnSameEnds", spec := "fnSameEnds", apart := false, narrowed := true }
def FnSameEndsUptoSaid : Prop := fnSameEndsUptoRow.holds Try.pinned (OpenSpec.upto fnSameEndsSpec)

/-- 'laws.FnCountPieces', WHERE WHAT IT READS IS OF BULK AT MOST 1048576: true; the input reads as it did. -/
def fnCountPiecesUptoRow : OpenClaim := { program := "ytehppjilnacjlaa", sum := "8e082454376b616e440269434a7726ae5648de45f07119103f1080ae94551565", func := "loop.example/copiedtexts/laws.FnCountPieces", spec := "fnCountPieces", apart := false, narrowed := true }
def FnCountPiecesUptoSaid : Prop := fnCountPiecesUptoRow.holds Try.pinned (OpenSpec.upto fnCountPiecesSpec)

/-- 'laws.FnLongestEnds', WHERE WHAT IT READS IS OF BULK AT MOST 1048576: true; the input reads as it did. -/
def fnLongestEndsUptoRow : OpenClaim := { program := "ytehppjilnacjlaa", sum := "8e082454376b616e440269434a7726ae5648de45f07119103f1080ae94551565", func := "loop.example/copiedtexts/laws.FnLongestEnds", spec := "fnLongestEnds", apart := false, narrowed := true }
def FnLongestEndsUptoSaid : Prop := fnLongestEndsUptoRow.holds Try.pinned (OpenSpec.upto fnLongestEndsSpec)

/-- 'laws.FnHowOften', WHERE WHAT IT READS IS OF BULK AT MOST 1048576: true; the input reads as it did. -/
def fnHowOftenUptoRow : OpenClaim := { program := "ytehppjilnacjlaa", sum := "8e082454376b616e440269434a7726ae5648de45f07119103f1080ae94551565", func := "loop.example/copiedtexts/laws.FnHowOften", spec := "fnHowOften", apart := false, narrowed := true }
def FnHowOftenUptoSaid : Prop := fnHowOftenUptoRow.holds Try.pinned (OpenSpec.upto fnHowOftenSpec)

/-- 'laws.FnAnyMachineOf', WHERE WHAT IT READS IS OF BULK AT MOST 1048576: true; the input reads as it did. -/
def fnAnyMachineOfUptoRow : OpenClaim := { program := "ytehppjilnacjlaa", sum := "8e082454376b616e440269434a7726ae5648de45f07119103f1080ae94551565", func := "loop.example/copiedtexts/laws.FnAnyMachineOf", spec := "fnAnyMachineOf", apart := false, narrowed := true }
def FnAnyMachineOfUptoSaid : Prop := fnAnyMachineOfUptoRow.holds Try.pinned (OpenSpec.upto fnAnyMachineOfSpec)

/-- 'laws.FnAnyHasPiece', WHERE WHAT IT READS IS OF BULK AT MOST 1048576: true; the input reads as it did. -/
def fnAnyHasPieceUptoRow : OpenClaim := { program := "ytehppjilnacjlaa", sum := "8e082454376b616e440269434a7726ae5648de45f07119103f1080ae94551565", func := "loop.example/copiedtexts/laws.FnAnyHasPiece", spec := "fnAnyHasPiece", apart := false, narrowed := true }
def FnAnyHasPieceUptoSaid : Prop := fnAnyHasPieceUptoRow.holds Try.pinned (OpenSpec.upto fnAnyHasPieceSpec)

/-- 'laws.FnAnySameEnds', WHERE WHAT IT READS IS OF BULK AT MOST 1048576: true; the input reads as it did. -/
def fnAnySameEndsUptoRow : OpenClaim := { program := "ytehppjilnacjlaa", sum := "8e082454376b616e440269434a7726ae5648de45f07119103f1080ae94551565", func := "loop.example/copiedtexts/laws.FnAnySameEnds", spec := "fnAnySameEnds", apart := false, narrowed := true }
def FnAnySameEndsUptoSaid : Prop := fnAnySameEndsUptoRow.holds Try.pinned (OpenSpec.upto fnAnySameEndsSpec)

/-- 'laws.FnAnyLongestEnds', WHERE WHAT IT READS IS OF BULK AT MOST 1048576: true; the input reads as it did. -/
def fnAnyLongestEndsUptoRow : OpenClaim := { program := "ytehppjilnacjlaa", sum := "8e082454376b616e440269434a7726ae5648de45f07119103f1080ae94551565", func := "loop.example/copiedtexts/laws.FnAnyLongestEnds", spec := "fnAnyLongestEnds", apart := false, narrowed := true }
def FnAnyLongestEndsUptoSaid : Prop := fnAnyLongestEndsUptoRow.holds Try.pinned (OpenSpec.upto fnAnyLongestEndsSpec)

end Rows
end Go.Proofs.Ytehppjilnacjlaa
