/-
  No cell of these rows narrows 'for every input' (looked for: loops, veiled, ifaces, maps, wideKeys, modest, calm, conditions, laid).
  DERIVED. THE GIVEN ROWS OF THIS SEAT. 6 by the template 'for every input the law returns true; each argument reads behind the call as it read before'; 0 by the template 'total and deterministic' (their statements: YtnjiooljoekhmaaTotals.lean).
  GIVEN WITH THE SEED: the statements are not yours to turn. If you find one false, say at which input.
  Laid BY PROGRAM, IN A SANDBOX (cutbox-rows.mjs): the forced cells as the released guide's own fill.sh prints them over the translation 5e537cb5e9476fc5… (all of the seat's roots in one cut). By AI agents, Wed Nov 11 2026. No macro, syntax, notation, axiom, sorry.
-/
import Derived.Test.YtnjiooljoekhmaaChecked
import GoSem.Claim
import GoSem.ClaimJoined
import GoSem.ClaimMapViews
import Derived.JoinedTies
import Derived.KernelRfl
namespace Go.Proofs.Ytnjiooljoekhmaa
/- THE CELL 'sum', in the pinned program and in every row, IS THE sha256 OF THE DUMP (.gsa) THAT YtnjiooljoekhmaaProg.lean LOADS. Nothing in Lean hashes anything: it is a label: what it is worth is what the hold of that sum in a sandbox is worth. -/
noncomputable def Try.pinned : Pinned := { name := "ytnjiooljoekhmaa", sum := "5e537cb5e9476fc5281bd1bd55771f3bfd8484abe9272db20f6051056a666983", checked := Try.checked }
namespace Rows
def none {H : Type} : Left H := { results := [], args := [] }

/-- 'laws.FnExactMachineOf': WHATEVER THE INPUT: true; the input reads as it did. -/
def fnExactMachineOfSpec : ChangeSpec := { name := "fnExactMachineOf", fn := fun _ => fun
  | [d] => { results := [.lit (.bool true)], args := [d] }
  | _ => none }
def fnExactMachineOfRow : OpenClaim := { program := "ytnjiooljoekhmaa", sum := "5e537cb5e9476fc5281bd1bd55771f3bfd8484abe9272db20f6051056a666983", func := "loop.example/copiedtexts/laws.FnExactMachineOf", spec := "fnExactMachineOf", apart := false }
def FnExactMachineOfSaid : Prop := fnExactMachineOfRow.holds Try.pinned (OpenSpec.ofChange fnExactMachineOfSpec)

/-- ITS FALSE NEIGHBOUR: 'it returns false'. Refute it at one input. -/
def fnExactMachineOfWrong : ChangeSpec := { name := "fnExactMachineOf", fn := fun _ => fun
  | [d] => { results := [.lit (.bool false)], args := [d] }
  | _ => none }
def FnExactMachineOfWrongFalsely : Prop := fnExactMachineOfRow.holds Try.pinned (OpenSpec.ofChange fnExactMachineOfWrong)

/-- 'laws.FnExactFollow': WHATEVER THE INPUT: true; the input reads as it did. -/
def fnExactFollowSpec : ChangeSpec := { name := "fnExactFollow", fn := fun _ => fun
  | [d1, d2] => { results := [.lit (.bool true)], args := [d1, d2] }
  | _ => none }
def fnExactFollowRow : OpenClaim := { program := "ytnjiooljoekhmaa", sum := "5e537cb5e9476fc5281bd1bd55771f3bfd8484abe9272db20f6051056a666983", func := "loop.example/copiedtexts/laws.FnExactFollow", spec := "fnExactFollow", apart := false }
def FnExactFollowSaid : Prop := fnExactFollowRow.holds Try.pinned (OpenSpec.ofChange fnExactFollowSpec)

/-- ITS FALSE NEIGHBOUR: 'it returns false'. Refute it at one input. -/
def fnExactFollowWrong : ChangeSpec := { name := "fnExactFollow", fn := fun _ => fun
  | [d1, d2] => { results := [.lit (.bool false)], args := [d1, d2] }
  | _ => none }
def FnExactFollowWrongFalsely : Prop := fnExactFollowRow.holds Try.pinned (OpenSpec.ofChange fnExactFollowWrong)

/-- 'laws.FnExactHasPiece': WHATEVER THE INPUT: true; the input reads as it did. -/
def fnExactHasPieceSpec : ChangeSpec := { name := "fnExactHasPiece", fn := fun _ => fun
  | [d1, d2] => { results := [.lit (.bool true)], args := [d1, d2] }
  | _ => none }
def fnExactHasPieceRow : OpenClaim := { program := "ytnjiooljoekhmaa", sum := "5e537cb5e9476fc5281bd1bd55771f3bfd8484abe9272db20f6051056a666983", func := "loop.example/copiedtexts/laws.FnExactHasPiece", spec := "fnExactHasPiece", apart := false }
def FnExactHasPieceSaid : Prop := fnExactHasPieceRow.holds Try.pinned (OpenSpec.ofChange fnExactHasPieceSpec)

/-- ITS FALSE NEIGHBOUR: 'it returns false'. Refute it at one input. -/
def fnExactHasPieceWrong : ChangeSpec := { name := "fnExactHasPiece", fn := fun _ => fun
  | [d1, d2] => { results := [.lit (.bool false)], args := [d1, d2] }
  | _ => none }
def FnExactHasPieceWrongFalsely : Prop := fnExactHasPieceRow.holds Try.pinned (OpenSpec.ofChange fnExactHasPieceWrong)

/-- 'laws.FnExactCountPieces': WHATEVER THE INPUT: true; the input reads as it did. -/
def fnExactCountPiecesSpec : ChangeSpec := { name := "fnExactCountPieces", fn := fun _ => fun
  | [d] => { results := [.lit (.bool true)], args := [d] }
  | _ => none }
def fnExactCountPiecesRow : OpenClaim := { program := "ytnjiooljoekhmaa", sum := "5e537cb5e9476fc5281bd1bd55771f3bfd8484abe9272db20f6051056a666983", func := "loop.example/copiedtexts/laws.FnExactCountPieces", spec := "fnExactCountPieces", apart := false }
def FnExactCountPiecesSaid : Prop := fnExactCountPiecesRow.holds Try.pinned (OpenSpec.ofChange fnExactCountPiecesSpec)

/-- ITS FALSE NEIGHBOUR: 'it returns false'. Refute it at one input. -/
def fnExactCountPiecesWrong : ChangeSpec := { name := "fnExactCountPieces", fn := fun _ => fun
  | [d] => { results := [.lit (.bool false)], args := [d] }
  | _ => none }
def FnExactCountPiecesWrongFalsely : Prop := fnExactCountPiecesRow.holds Try.pinned (OpenSpec.ofChange fnExactCountPiecesWrong)

/-- 'laws.FnExactLongestEnds': WHATEVER THE INPUT: true; the input reads as it did. -/
def fnExactLongestEndsSpec : ChangeSpec := { name := "fnExactLongestEnds", fn := fun _ => fun
  | [d1, d2] => { results := [.lit (.bool true)], args := [d1, d2] }
  | _ => none }
def fnExactLongestEndsRow : OpenClaim := { program := "ytnjiooljoekhmaa", sum := "5e537cb5e9476fc5281bd1bd55771f3bfd8484abe9272db20f6051056a666983", func := "loop.example/copiedtexts/laws.FnExactLongestEnds", spec := "fnExactLongestEnds", apart := false }
def FnExactLongestEndsSaid : Prop := fnExactLongestEndsRow.holds Try.pinned (OpenSpec.ofChange fnExactLongestEndsSpec)

/-- ITS FALSE NEIGHBOUR: 'it returns false'. Refute it at one input. -/
def fnExactLongestEndsWrong : ChangeSpec := { name := "fnExactLongestEnds", fn := fun _ => fun
  | [d1, d2] => { results := [.lit (.bool false)], args := [d1, d2] }
  | _ => none }
def FnExactLongestEndsWrongFalsely : Prop := fnExactLongestEndsRow.holds Try.pinned (OpenSpec.ofChange fnExactLongestEndsWrong)

/-- 'laws.FnExactHowOften': WHATEVER THE INPUT: true; the input reads as it did. -/
def fnExactHowOftenSpec : ChangeSpec := { name := "fnExactHowOften", fn := fun _ => fun
  | [d1, d2] => { results := [.lit (.bool true)], args := [d1, d2] }
  | _ => none }
def fnExactHowOftenRow : OpenClaim := { program := "ytnjiooljoekhmaa", sum := "5e537cb5e9476fc5281bd1bd55771f3bfd8484abe9272db20f6051056a666983", func := "loop.example/copiedtexts/laws.FnExactHowOften", spec := "fnExactHowOften", apart := false }
def FnExactHowOftenSaid : Prop := fnExactHowOftenRow.holds Try.pinned (OpenSpec.ofChange fnExactHowOftenSpec)

/-- ITS FALSE NEIGHBOUR: 'it returns false'. Refute it at one input. -/
def fnExactHowOftenWrong : ChangeSpec := { name := "fnExactHowOften", fn := fun _ => fun
  | [d1, d2] => { results := [.lit (.bool false)], args := [d1, d2] }
  | _ => none }
def FnExactHowOftenWrongFalsely : Prop := fnExactHowOftenRow.holds Try.pinned (OpenSpec.ofChange fnExactHowOftenWrong)

/- THE SECOND FORM. 'bulk': how many values and letters a reading holds, each counted each time it is reached (what is shared counts as often as it is met; a slice's spare places count too). A statement '..UptoSaid' is the law's where the arguments, and the package variables that the reading takes, are together of bulk at most 1048576: NARROWER than '..Said'. Prove '..Said' where nothing that the law and all that it calls make is longer than what came in: it says more and counts as full. Else prove '..UptoSaid'. A law counts once. -/
mutual
def uptoBulk {H : Type} : DataW H → Nat
  | .lit (.string bytes) => bytes.length + 1
  | .lit _ => 1
  | .nil => 1
  | .ptr d => uptoBulk d + 1
  | .slice elems spare => uptoBulkAll elems + uptoBulkAll spare + 1
  | .agg parts => uptoBulkAll parts + 1
  | .iface _ d => uptoBulk d + 1
  | .map entries => uptoBulkEntries entries + 1
  | .held _ => 1
def uptoBulkAll {H : Type} : List (DataW H) → Nat
  | [] => 0
  | d :: r => uptoBulk d + uptoBulkAll r
def uptoBulkEntries {H : Type} : List (Lit × DataW H) → Nat
  | [] => 0
  | x :: r => uptoBulkEntry x + uptoBulkEntries r
def uptoBulkEntry {H : Type} : Lit × DataW H → Nat
  | (.string bytes, d) => bytes.length + uptoBulk d + 1
  | (_, d) => uptoBulk d + 1
 end
def uptoSmall : (H : Type) → List (DataW H) → Bool := fun _ ds => decide (uptoBulkAll ds ≤ 1048576)
def OpenSpec.upto (s : _root_.Go.ChangeSpec) : _root_.Go.OpenSpec := { _root_.Go.OpenSpec.ofChange s with cond := some uptoSmall }

/-- 'laws.FnExactMachineOf', WHERE WHAT IT READS IS OF BULK AT MOST 1048576: true; the input reads as it did. -/
def fnExactMachineOfUptoRow : OpenClaim := { program := "ytnjiooljoekhmaa", sum := "5e537cb5e9476fc5281bd1bd55771f3bfd8484abe9272db20f6051056a666983", func := "loop.example/copiedtexts/laws.FnExactMachineOf", spec := "fnExactMachineOf", apart := false, narrowed := true }
def FnExactMachineOfUptoSaid : Prop := fnExactMachineOfUptoRow.holds Try.pinned (OpenSpec.upto fnExactMachineOfSpec)

/-- 'laws.FnExactFollow', WHERE WHAT IT READS IS OF BULK AT MOST 1048576: true; the input reads as it did. -/
def fnExactFollowUptoRow : OpenClaim := { program := "ytnjiooljoekhmaa", sum := "5e537cb5e9476fc5281bd1bd55771f3bfd8484abe9272db20f6051056a666983", func := "loop.example/copiedtexts/laws.FnExactFollow", spec := "fnExactFollow", apart := false, narrowed := true }
def FnExactFollowUptoSaid : Prop := fnExactFollowUptoRow.holds Try.pinned (OpenSpec.upto fnExactFollowSpec)

/-- 'laws.FnExactHasPiece', WHERE WHAT IT READS IS OF BULK AT MOST 1048576: true; the input reads as it did. -/
def fnExactHasPieceUptoRow : OpenClaim := { program := "ytnjiooljoekhmaa", sum := "5e537cb5e9476fc5281bd1bd55771f3bfd8484abe9272db20f6051056a666983", func := "loop.example/copiedtexts/laws.FnExactHasPiece", spec := "fnExactHasPiece", apart := false, narrowed := true }
def FnExactHasPieceUptoSaid : Prop := fnExactHasPieceUptoRow.holds Try.pinned (OpenSpec.upto fnExactHasPieceSpec)

/-- 'laws.FnExactCountPieces', WHERE WHAT IT READS IS OF BULK AT MOST 1048576: true; the input reads as it did. -/
def fnExactCountPiecesUptoRow : OpenClaim := { program := "ytnjiooljoekhmaa", sum := "5e537cb5e9476fc5281bd1bd55771f3bfd8484abe9272db20f6051056a666983", func := "loop.example/copiedtexts/laws.FnExactCountPieces", spec := "fnExactCountPieces", apart := false, narrowed := true }
def FnExactCountPiecesUptoSaid : Prop := fnExactCountPiecesUptoRow.holds Try.pinned (OpenSpec.upto fnExactCountPiecesSpec)

/-- 'laws.FnExactLongestEnds', WHERE WHAT IT READS IS OF BULK AT MOST 1048576: true; the input reads as it did. -/
def fnExactLongestEndsUptoRow : OpenClaim := { program := "ytnjiooljoekhmaa", sum := "5e537cb5e9476fc5281bd1bd55771f3bfd8484abe9272db20f6051056a666983", func := "loop.example/copiedtexts/laws.FnExactLongestEnds", spec := "fnExactLongestEnds", apart := false, narrowed := true }
def FnExactLongestEndsUptoSaid : Prop := fnExactLongestEndsUptoRow.holds Try.pinned (OpenSpec.upto fnExactLongestEndsSpec)

/-- 'laws.FnExactHowOften', WHERE WHAT IT READS IS OF BULK AT MOST 1048576: true; the input reads as it did. -/
def fnExactHowOftenUptoRow : OpenClaim := { program := "ytnjiooljoekhmaa", sum := "5e537cb5e9476fc5281bd1bd55771f3bfd8484abe9272db20f6051056a666983", func := "loop.example/copiedtexts/laws.FnExactHowOften", spec := "fnExactHowOften", apart := false, narrowed := true }
def FnExactHowOftenUptoSaid : Prop := fnExactHowOftenUptoRow.holds Try.pinned (OpenSpec.upto fnExactHowOftenSpec)

end Rows
end Go.Proofs.Ytnjiooljoekhmaa
