/-
  No cell of these rows narrows 'for every input' (looked for: loops, veiled, ifaces, maps, wideKeys, modest, calm, conditions, laid).
  DERIVED. THE GIVEN ROWS OF THIS SEAT. 8 by the template 'for every input the law returns true; each argument reads behind the call as it read before'; 0 by the template 'total and deterministic' (their statements: YtfbnapgbpcikkaaTotals.lean).
  GIVEN WITH THE SEED: the statements are not yours to turn. If you find one false, say at which input.
  Laid BY PROGRAM, IN A SANDBOX (cutbox-rows.mjs): the forced cells as the released guide's own fill.sh prints them over the translation 4cfc0886d5d88389… (all of the seat's roots in one cut). By AI agents, Wed Nov 11 2026. No macro, syntax, notation, axiom, sorry.
-/
import Derived.Test.YtfbnapgbpcikkaaChecked
import GoSem.Claim
import GoSem.ClaimJoined
import GoSem.ClaimMapViews
import Derived.JoinedTies
import Derived.KernelRfl
namespace Go.Proofs.Ytfbnapgbpcikkaa
/- THE CELL 'sum', in the pinned program and in every row, IS THE sha256 OF THE DUMP (.gsa) THAT YtfbnapgbpcikkaaProg.lean LOADS. Nothing in Lean hashes anything: it is a label: what it is worth is what the hold of that sum in a sandbox is worth. -/
noncomputable def Try.pinned : Pinned := { name := "ytfbnapgbpcikkaa", sum := "4cfc0886d5d883899b3d0a972959095ada194aeae1f2f39b4a96711bc84db4a6", checked := Try.checked }
namespace Rows
def none {H : Type} : Left H := { results := [], args := [] }

/-- 'laws.FnExactEntryLess': WHATEVER THE INPUT: true; the input reads as it did. -/
def fnExactEntryLessSpec : ChangeSpec := { name := "fnExactEntryLess", fn := fun _ => fun
  | [d1, d2] => { results := [.lit (.bool true)], args := [d1, d2] }
  | _ => none }
def fnExactEntryLessRow : OpenClaim := { program := "ytfbnapgbpcikkaa", sum := "4cfc0886d5d883899b3d0a972959095ada194aeae1f2f39b4a96711bc84db4a6", func := "loop.example/copiedtexts/laws.FnExactEntryLess", spec := "fnExactEntryLess", apart := false }
def FnExactEntryLessSaid : Prop := fnExactEntryLessRow.holds Try.pinned (OpenSpec.ofChange fnExactEntryLessSpec)

/-- ITS FALSE NEIGHBOUR: 'it returns false'. Refute it at one input. -/
def fnExactEntryLessWrong : ChangeSpec := { name := "fnExactEntryLess", fn := fun _ => fun
  | [d1, d2] => { results := [.lit (.bool false)], args := [d1, d2] }
  | _ => none }
def FnExactEntryLessWrongFalsely : Prop := fnExactEntryLessRow.holds Try.pinned (OpenSpec.ofChange fnExactEntryLessWrong)

/-- 'laws.FnExactShelfOk': WHATEVER THE INPUT: true; the input reads as it did. -/
def fnExactShelfOkSpec : ChangeSpec := { name := "fnExactShelfOk", fn := fun _ => fun
  | [d] => { results := [.lit (.bool true)], args := [d] }
  | _ => none }
def fnExactShelfOkRow : OpenClaim := { program := "ytfbnapgbpcikkaa", sum := "4cfc0886d5d883899b3d0a972959095ada194aeae1f2f39b4a96711bc84db4a6", func := "loop.example/copiedtexts/laws.FnExactShelfOk", spec := "fnExactShelfOk", apart := false }
def FnExactShelfOkSaid : Prop := fnExactShelfOkRow.holds Try.pinned (OpenSpec.ofChange fnExactShelfOkSpec)

/-- ITS FALSE NEIGHBOUR: 'it returns false'. Refute it at one input. -/
def fnExactShelfOkWrong : ChangeSpec := { name := "fnExactShelfOk", fn := fun _ => fun
  | [d] => { results := [.lit (.bool false)], args := [d] }
  | _ => none }
def FnExactShelfOkWrongFalsely : Prop := fnExactShelfOkRow.holds Try.pinned (OpenSpec.ofChange fnExactShelfOkWrong)

/-- 'laws.FnExactShelfOf': WHATEVER THE INPUT: true; the input reads as it did. -/
def fnExactShelfOfSpec : ChangeSpec := { name := "fnExactShelfOf", fn := fun _ => fun
  | [d1, d2, d3, d4] => { results := [.lit (.bool true)], args := [d1, d2, d3, d4] }
  | _ => none }
def fnExactShelfOfRow : OpenClaim := { program := "ytfbnapgbpcikkaa", sum := "4cfc0886d5d883899b3d0a972959095ada194aeae1f2f39b4a96711bc84db4a6", func := "loop.example/copiedtexts/laws.FnExactShelfOf", spec := "fnExactShelfOf", recurses := true, apart := false }
def FnExactShelfOfSaid : Prop := fnExactShelfOfRow.holds Try.pinned (OpenSpec.ofChange fnExactShelfOfSpec)

/-- ITS FALSE NEIGHBOUR: 'it returns false'. Refute it at one input. -/
def fnExactShelfOfWrong : ChangeSpec := { name := "fnExactShelfOf", fn := fun _ => fun
  | [d1, d2, d3, d4] => { results := [.lit (.bool false)], args := [d1, d2, d3, d4] }
  | _ => none }
def FnExactShelfOfWrongFalsely : Prop := fnExactShelfOfRow.holds Try.pinned (OpenSpec.ofChange fnExactShelfOfWrong)

/-- 'laws.FnExactShelfJoin': WHATEVER THE INPUT: true; the input reads as it did. -/
def fnExactShelfJoinSpec : ChangeSpec := { name := "fnExactShelfJoin", fn := fun _ => fun
  | [d1, d2] => { results := [.lit (.bool true)], args := [d1, d2] }
  | _ => none }
def fnExactShelfJoinRow : OpenClaim := { program := "ytfbnapgbpcikkaa", sum := "4cfc0886d5d883899b3d0a972959095ada194aeae1f2f39b4a96711bc84db4a6", func := "loop.example/copiedtexts/laws.FnExactShelfJoin", spec := "fnExactShelfJoin", apart := false }
def FnExactShelfJoinSaid : Prop := fnExactShelfJoinRow.holds Try.pinned (OpenSpec.ofChange fnExactShelfJoinSpec)

/-- ITS FALSE NEIGHBOUR: 'it returns false'. Refute it at one input. -/
def fnExactShelfJoinWrong : ChangeSpec := { name := "fnExactShelfJoin", fn := fun _ => fun
  | [d1, d2] => { results := [.lit (.bool false)], args := [d1, d2] }
  | _ => none }
def FnExactShelfJoinWrongFalsely : Prop := fnExactShelfJoinRow.holds Try.pinned (OpenSpec.ofChange fnExactShelfJoinWrong)

/-- 'laws.FnExactShelfLose': WHATEVER THE INPUT: true; the input reads as it did. -/
def fnExactShelfLoseSpec : ChangeSpec := { name := "fnExactShelfLose", fn := fun _ => fun
  | [d1, d2] => { results := [.lit (.bool true)], args := [d1, d2] }
  | _ => none }
def fnExactShelfLoseRow : OpenClaim := { program := "ytfbnapgbpcikkaa", sum := "4cfc0886d5d883899b3d0a972959095ada194aeae1f2f39b4a96711bc84db4a6", func := "loop.example/copiedtexts/laws.FnExactShelfLose", spec := "fnExactShelfLose", apart := false }
def FnExactShelfLoseSaid : Prop := fnExactShelfLoseRow.holds Try.pinned (OpenSpec.ofChange fnExactShelfLoseSpec)

/-- ITS FALSE NEIGHBOUR: 'it returns false'. Refute it at one input. -/
def fnExactShelfLoseWrong : ChangeSpec := { name := "fnExactShelfLose", fn := fun _ => fun
  | [d1, d2] => { results := [.lit (.bool false)], args := [d1, d2] }
  | _ => none }
def FnExactShelfLoseWrongFalsely : Prop := fnExactShelfLoseRow.holds Try.pinned (OpenSpec.ofChange fnExactShelfLoseWrong)

/-- 'laws.FnExactShelfFind': WHATEVER THE INPUT: true; the input reads as it did. -/
def fnExactShelfFindSpec : ChangeSpec := { name := "fnExactShelfFind", fn := fun _ => fun
  | [d1, d2] => { results := [.lit (.bool true)], args := [d1, d2] }
  | _ => none }
def fnExactShelfFindRow : OpenClaim := { program := "ytfbnapgbpcikkaa", sum := "4cfc0886d5d883899b3d0a972959095ada194aeae1f2f39b4a96711bc84db4a6", func := "loop.example/copiedtexts/laws.FnExactShelfFind", spec := "fnExactShelfFind", apart := false }
def FnExactShelfFindSaid : Prop := fnExactShelfFindRow.holds Try.pinned (OpenSpec.ofChange fnExactShelfFindSpec)

/-- ITS FALSE NEIGHBOUR: 'it returns false'. Refute it at one input. -/
def fnExactShelfFindWrong : ChangeSpec := { name := "fnExactShelfFind", fn := fun _ => fun
  | [d1, d2] => { results := [.lit (.bool false)], args := [d1, d2] }
  | _ => none }
def FnExactShelfFindWrongFalsely : Prop := fnExactShelfFindRow.holds Try.pinned (OpenSpec.ofChange fnExactShelfFindWrong)

/-- 'laws.FnExactShelfDocs': WHATEVER THE INPUT: true; the input reads as it did. -/
def fnExactShelfDocsSpec : ChangeSpec := { name := "fnExactShelfDocs", fn := fun _ => fun
  | [d] => { results := [.lit (.bool true)], args := [d] }
  | _ => none }
def fnExactShelfDocsRow : OpenClaim := { program := "ytfbnapgbpcikkaa", sum := "4cfc0886d5d883899b3d0a972959095ada194aeae1f2f39b4a96711bc84db4a6", func := "loop.example/copiedtexts/laws.FnExactShelfDocs", spec := "fnExactShelfDocs", recurses := true, apart := false }
def FnExactShelfDocsSaid : Prop := fnExactShelfDocsRow.holds Try.pinned (OpenSpec.ofChange fnExactShelfDocsSpec)

/-- ITS FALSE NEIGHBOUR: 'it returns false'. Refute it at one input. -/
def fnExactShelfDocsWrong : ChangeSpec := { name := "fnExactShelfDocs", fn := fun _ => fun
  | [d] => { results := [.lit (.bool false)], args := [d] }
  | _ => none }
def FnExactShelfDocsWrongFalsely : Prop := fnExactShelfDocsRow.holds Try.pinned (OpenSpec.ofChange fnExactShelfDocsWrong)

/-- 'laws.FnExactShelfAsk': WHATEVER THE INPUT: true; the input reads as it did. -/
def fnExactShelfAskSpec : ChangeSpec := { name := "fnExactShelfAsk", fn := fun _ => fun
  | [d1, d2] => { results := [.lit (.bool true)], args := [d1, d2] }
  | _ => none }
def fnExactShelfAskRow : OpenClaim := { program := "ytfbnapgbpcikkaa", sum := "4cfc0886d5d883899b3d0a972959095ada194aeae1f2f39b4a96711bc84db4a6", func := "loop.example/copiedtexts/laws.FnExactShelfAsk", spec := "fnExactShelfAsk", recurses := true, apart := false }
def FnExactShelfAskSaid : Prop := fnExactShelfAskRow.holds Try.pinned (OpenSpec.ofChange fnExactShelfAskSpec)

/-- ITS FALSE NEIGHBOUR: 'it returns false'. Refute it at one input. -/
def fnExactShelfAskWrong : ChangeSpec := { name := "fnExactShelfAsk", fn := fun _ => fun
  | [d1, d2] => { results := [.lit (.bool false)], args := [d1, d2] }
  | _ => none }
def FnExactShelfAskWrongFalsely : Prop := fnExactShelfAskRow.holds Try.pinned (OpenSpec.ofChange fnExactShelfAskWrong)

/- THE SECOND FORM. 'bulk': how many values and letters a reading holds, each counted each time it is reached (what is shared counts as often as it is met; a slice's spare places count too). A statement '..UptoSaid' is the law's where the arguments, and the package variables that the reading takes, are together of bulk at most 1048576: NARROWER than '..Said'. Prove '..Said' where nothing that the law and all that it calls make is longer than what came in: it says more and counts as full. Else prove '..UptoSaid'. A law counts once. -/
mutual
def uptoBulk {H : Type} : DataW H → Nat
  | .lit (.string bytes) => bytes.length + 1
  | .lit _ => 1
  | .nil => 1
  | .ptr d => uptoBulk d + 1
  | .slice elems spare => uptoBulkAll elems + uptoBulkAll spare + 1
  | .agg parts => uptoBulkAll parts + 1
  | .iface _ d => uptoBulk d + 1
  | .map entries => uptoBulkEntries entries + 1
  | .held _ => 1
def uptoBulkAll {H : Type} : List (DataW H) → Nat
  | [] => 0
  | d :: r => uptoBulk d + uptoBulkAll r
def uptoBulkEntries {H : Type} : List (Lit × DataW H) → Nat
  | [] => 0
  | x :: r => uptoBulkEntry x + uptoBulkEntries r
def uptoBulkEntry {H : Type} : Lit × DataW H → Nat
  | (.string bytes, d) => bytes.length + uptoBulk d + 1
  | (_, d) => uptoBulk d + 1
 end
def uptoSmall : (H : Type) → List (DataW H) → Bool := fun _ ds => decide (uptoBulkAll ds ≤ 1048576)
def OpenSpec.upto (s : _root_.Go.ChangeSpec) : _root_.Go.OpenSpec := { _root_.Go.OpenSpec.ofChange s with cond := some uptoSmall }

/-- 'laws.FnExactEntryLess', WHERE WHAT IT READS IS OF BULK AT MOST 1048576: true; the input reads as it did. -/
def fnExactEntryLessUptoRow : OpenClaim := { program := "ytfbnapgbpcikkaa", sum := "4cfc0886d5d883899b3d0a972959095ada194aeae1f2f39b4a96711bc84db4a6", func := "loop.example/copiedtexts/laws.FnExactEntryLess", spec := "fnExactEntryLess", apart := false, narrowed := true }
def FnExactEntryLessUptoSaid : Prop := fnExactEntryLessUptoRow.holds Try.pinned (OpenSpec.upto fnExactEntryLessSpec)

/-- 'laws.FnExactShelfOk', WHERE WHAT IT READS IS OF BULK AT MOST 1048576: true; the input reads as it did. -/
def fnExactShelfOkUptoRow : OpenClaim := { program := "ytfbnapgbpcikkaa", sum := "4cfc0886d5d883899b3d0a972959095ada194aeae1f2f39b4a96711bc84db4a6", func := "loop.example/copiedtexts/laws.FnExactShelfOk", spec := "fnExactShelfOk", apart := false, narrowed := true }
def FnExactShelfOkUptoSaid : Prop := fnExactShelfOkUptoRow.holds Try.pinned (OpenSpec.upto fnExactShelfOkSpec)

/-- 'laws.FnExactShelfOf', WHERE WHAT IT READS IS OF BULK AT MOST 1048576: true; the input reads as it did. -/
def fnExactShelfOfUptoRow : OpenClaim := { program := "ytfbnapgbpcikkaa", sum := "4cfc0886d5d883899b3d0a972959095ada194aeae1f2f39b4a96711bc84db4a6", func := "loop.example/copiedtexts/laws.FnExactShelfOf", spec := "fnExactShelfOf", recurses := true, apart := false, narrowed := true }
def FnExactShelfOfUptoSaid : Prop := fnExactShelfOfUptoRow.holds Try.pinned (OpenSpec.upto fnExactShelfOfSpec)

/-- 'laws.FnExactShelfJoin', WHERE WHAT IT READS IS OF BULK AT MOST 1048576: true; the input reads as it did. -/
def fnExactShelfJoinUptoRow : OpenClaim := { program := "ytfbnapgbpcikkaa", sum := "4cfc0886d5d883899b3d0a972959095ada194aeae1f2f39b4a96711bc84db4a6", func := "loop.example/copiedtexts/laws.FnExactShelfJoin", spec := "fnExactShelfJoin", apart := false, narrowed := true }
def FnExactShelfJoinUptoSaid : Prop := fnExactShelfJoinUptoRow.holds Try.pinned (OpenSpec.upto fnExactShelfJoinSpec)

/-- 'laws.FnExactShelfLose', WHERE WHAT IT READS IS OF BULK AT MOST 1048576: true; the input reads as it did. -/
def fnExactShelfLoseUptoRow : OpenClaim := { program := "ytfbnapgbpcikkaa", sum := "4cfc0886d5d883899b3d0a972959095ada194aeae1f2f39b4a96711bc84db4a6", func := "loop.example/copiedtexts/laws.FnExactShelfLose", spec := "fnExactShelfLose", apart := false, narrowed := true }
def FnExactShelfLoseUptoSaid : Prop := fnExactShelfLoseUptoRow.holds Try.pinned (OpenSpec.upto fnExactShelfLoseSpec)

/-- 'laws.FnExactShelfFind', WHERE WHAT IT READS IS OF BULK AT MOST 1048576: true; the input reads as it did. -/
def fnExactShelfFindUptoRow : OpenClaim := { program := "ytfbnapgbpcikkaa", sum := "4cfc0886d5d883899b3d0a972959095ada194aeae1f2f39b4a96711bc84db4a6", func := "loop.example/copiedtexts/laws.FnExactShelfFind", spec := "fnExactShelfFind", apart := false, narrowed := true }
def FnExactShelfFindUptoSaid : Prop := fnExactShelfFindUptoRow.holds Try.pinned (OpenSpec.upto fnExactShelfFindSpec)

/-- 'laws.FnExactShelfDocs', WHERE WHAT IT READS IS OF BULK AT MOST 1048576: true; the input reads as it did. -/
def fnExactShelfDocsUptoRow : OpenClaim := { program := "ytfbnapgbpcikkaa", sum := "4cfc0886d5d883899b3d0a972959095ada194aeae1f2f39b4a96711bc84db4a6", func := "loop.example/copiedtexts/laws.FnExactShelfDocs", spec := "fnExactShelfDocs", recurses := true, apart := false, narrowed := true }
def FnExactShelfDocsUptoSaid : Prop := fnExactShelfDocsUptoRow.holds Try.pinned (OpenSpec.upto fnExactShelfDocsSpec)

/-- 'laws.FnExactShelfAsk', WHERE WHAT IT READS IS OF BULK AT MOST 1048576: true; the input reads as it did. -/
def fnExactShelfAskUptoRow : OpenClaim := { program := "ytfbnapgbpcikkaa", sum := "4cfc0886d5d883899b3d0a972959095ada194aeae1f2f39b4a96711bc84db4a6", func := "loop.example/copiedtexts/laws.FnExactShelfAsk", spec := "fnExactShelfAsk", recurses := true, apart := false, narrowed := true }
def FnExactShelfAskUptoSaid : Prop := fnExactShelfAskUptoRow.holds Try.pinned (OpenSpec.upto fnExactShelfAskSpec)

end Rows
end Go.Proofs.Ytfbnapgbpcikkaa
