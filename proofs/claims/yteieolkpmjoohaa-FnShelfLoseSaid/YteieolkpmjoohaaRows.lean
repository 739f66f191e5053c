/-
  No cell of these rows narrows 'for every input' (looked for: loops, veiled, ifaces, maps, wideKeys, modest, calm, conditions, laid).
  DERIVED. THE GIVEN ROWS OF THIS SEAT. 11 by the template 'for every input the law returns true; each argument reads behind the call as it read before'; 0 by the template 'total and deterministic' (their statements: YteieolkpmjoohaaTotals.lean).
  GIVEN WITH THE SEED: the statements are not yours to turn. If you find one false, say at which input.
  Laid BY PROGRAM, IN A SANDBOX (cutbox-rows.mjs): the forced cells as the released guide's own fill.sh prints them over the translation 60f8298df74728ad… (all of the seat's roots in one cut). By AI agents, Wed Nov 11 2026. No macro, syntax, notation, axiom, sorry.
-/
import Derived.Test.YteieolkpmjoohaaChecked
import GoSem.Claim
import GoSem.ClaimJoined
import GoSem.ClaimMapViews
import Derived.JoinedTies
import Derived.KernelRfl
namespace Go.Proofs.Yteieolkpmjoohaa
/- THE CELL 'sum', in the pinned program and in every row, IS THE sha256 OF THE DUMP (.gsa) THAT YteieolkpmjoohaaProg.lean LOADS. Nothing in Lean hashes anything: it is a label: what it is worth is what the hold of that sum in a sandbox is worth. -/
noncomputable def Try.pinned : Pinned := { name := "yteieolkpmjoohaa", sum := "60f8298df74728ade0ebef20ed3ce1cf2b9846772c11d50353e686b757b46a0d", checked := Try.checked }
namespace Rows
def none {H : Type} : Left H := { results := [], args := [] }

/-- 'laws.FnEntryLess': WHATEVER THE INPUT: true; the input reads as it did. -/
def fnEntryLessSpec : ChangeSpec := { name := "fnEntryLess", fn := fun _ => fun
  | [d] => { results := [.lit (.bool true)], args := [d] }
  | _ => none }
def fnEntryLessRow : OpenClaim := { program := "yteieolkpmjoohaa", sum := "60f8298df74728ade0ebef20ed3ce1cf2b9846772c11d50353e686b757b46a0d", func := "loop.example/copiedtexts/laws.FnEntryLess", spec := "fnEntryLess", apart := false }
def FnEntryLessSaid : Prop := fnEntryLessRow.holds Try.pinned (OpenSpec.ofChange fnEntryLessSpec)

/-- ITS FALSE NEIGHBOUR: 'it returns false'. Refute it at one input. -/
def fnEntryLessWrong : ChangeSpec := { name := "fnEntryLess", fn := fun _ => fun
  | [d] => { results := [.lit (.bool false)], args := [d] }
  | _ => none }
def FnEntryLessWrongFalsely : Prop := fnEntryLessRow.holds Try.pinned (OpenSpec.ofChange fnEntryLessWrong)

/-- 'laws.FnShelfOk': WHATEVER THE INPUT: true; the input reads as it did. -/
def fnShelfOkSpec : ChangeSpec := { name := "fnShelfOk", fn := fun _ => fun
  | [d] => { results := [.lit (.bool true)], args := [d] }
  | _ => none }
def fnShelfOkRow : OpenClaim := { program := "yteieolkpmjoohaa", sum := "60f8298df74728ade0ebef20ed3ce1cf2b9846772c11d50353e686b757b46a0d", func := "loop.example/copiedtexts/laws.FnShelfOk", spec := "fnShelfOk", apart := false }
def FnShelfOkSaid : Prop := fnShelfOkRow.holds Try.pinned (OpenSpec.ofChange fnShelfOkSpec)

/-- ITS FALSE NEIGHBOUR: 'it returns false'. Refute it at one input. -/
def fnShelfOkWrong : ChangeSpec := { name := "fnShelfOk", fn := fun _ => fun
  | [d] => { results := [.lit (.bool false)], args := [d] }
  | _ => none }
def FnShelfOkWrongFalsely : Prop := fnShelfOkRow.holds Try.pinned (OpenSpec.ofChange fnShelfOkWrong)

/-- 'laws.FnShelfOf': WHATEVER THE INPUT: true; the input reads as it did. -/
def fnShelfOfSpec : ChangeSpec := { name := "fnShelfOf", fn := fun _ => fun
  | [d] => { results := [.lit (.bool true)], args := [d] }
  | _ => none }
def fnShelfOfRow : OpenClaim := { program := "yteieolkpmjoohaa", sum := "60f8298df74728ade0ebef20ed3ce1cf2b9846772c11d50353e686b757b46a0d", func := "loop.example/copiedtexts/laws.FnShelfOf", spec := "fnShelfOf", recurses := true, apart := false }
def FnShelfOfSaid : Prop := fnShelfOfRow.holds Try.pinned (OpenSpec.ofChange fnShelfOfSpec)

/-- ITS FALSE NEIGHBOUR: 'it returns false'. Refute it at one input. -/
def fnShelfOfWrong : ChangeSpec := { name := "fnShelfOf", fn := fun _ => fun
  | [d] => { results := [.lit (.bool false)], args := [d] }
  | _ => none }
def FnShelfOfWrongFalsely : Prop := fnShelfOfRow.holds Try.pinned (OpenSpec.ofChange fnShelfOfWrong)

/-- 'laws.FnShelfJoin': WHATEVER THE INPUT: true; the input reads as it did. -/
def fnShelfJoinSpec : ChangeSpec := { name := "fnShelfJoin", fn := fun _ => fun
  | [d] => { results := [.lit (.bool true)], args := [d] }
  | _ => none }
def fnShelfJoinRow : OpenClaim := { program := "yteieolkpmjoohaa", sum := "60f8298df74728ade0ebef20ed3ce1cf2b9846772c11d50353e686b757b46a0d", func := "loop.example/copiedtexts/laws.FnShelfJoin", spec := "fnShelfJoin", apart := false }
def FnShelfJoinSaid : Prop := fnShelfJoinRow.holds Try.pinned (OpenSpec.ofChange fnShelfJoinSpec)

/-- ITS FALSE NEIGHBOUR: 'it returns false'. Refute it at one input. -/
def fnShelfJoinWrong : ChangeSpec := { name := "fnShelfJoin", fn := fun _ => fun
  | [d] => { results := [.lit (.bool false)], args := [d] }
  | _ => none }
def FnShelfJoinWrongFalsely : Prop := fnShelfJoinRow.holds Try.pinned (OpenSpec.ofChange fnShelfJoinWrong)

/-- 'laws.FnShelfThree': WHATEVER THE INPUT: true; the input reads as it did. -/
def fnShelfThreeSpec : ChangeSpec := { name := "fnShelfThree", fn := fun _ => fun
  | [d] => { results := [.lit (.bool true)], args := [d] }
  | _ => none }
def fnShelfThreeRow : OpenClaim := { program := "yteieolkpmjoohaa", sum := "60f8298df74728ade0ebef20ed3ce1cf2b9846772c11d50353e686b757b46a0d", func := "loop.example/copiedtexts/laws.FnShelfThree", spec := "fnShelfThree", apart := false }
def FnShelfThreeSaid : Prop := fnShelfThreeRow.holds Try.pinned (OpenSpec.ofChange fnShelfThreeSpec)

/-- ITS FALSE NEIGHBOUR: 'it returns false'. Refute it at one input. -/
def fnShelfThreeWrong : ChangeSpec := { name := "fnShelfThree", fn := fun _ => fun
  | [d] => { results := [.lit (.bool false)], args := [d] }
  | _ => none }
def FnShelfThreeWrongFalsely : Prop := fnShelfThreeRow.holds Try.pinned (OpenSpec.ofChange fnShelfThreeWrong)

/-- 'laws.FnShelfLose': WHATEVER THE INPUT: true; the input reads as it did. -/
def fnShelfLoseSpec : ChangeSpec := { name := "fnShelfLose", fn := fun _ => fun
  | [d] => { results := [.lit (.bool true)], args := [d] }
  | _ => none }
def fnShelfLoseRow : OpenClaim := { program := "yteieolkpmjoohaa", sum := "60f8298df74728ade0ebef20ed3ce1cf2b9846772c11d50353e686b757b46a0d", func := "loop.example/copiedtexts/laws.FnShelfLose", spec := "fnShelfLose", recurses := true, apart := false }
def FnShelfLoseSaid : Prop := fnShelfLoseRow.holds Try.pinned (OpenSpec.ofChange fnShelfLoseSpec)

/-- ITS FALSE NEIGHBOUR: 'it returns false'. Refute it at one input. -/
def fnShelfLoseWrong : ChangeSpec := { name := "fnShelfLose", fn := fun _ => fun
  | [d] => { results := [.lit (.bool false)], args := [d] }
  | _ => none }
def FnShelfLoseWrongFalsely : Prop := fnShelfLoseRow.holds Try.pinned (OpenSpec.ofChange fnShelfLoseWrong)

/-- 'laws.FnShelfFind': WHATEVER THE INPUT: true; the input reads as it did. -/
def fnShelfFindSpec : ChangeSpec := { name := "fnShelfFind", fn := fun _ => fun
  | [d] => { results := [.lit (.bool true)], args := [d] }
  | _ => none }
def fnShelfFindRow : OpenClaim := { program := "yteieolkpmjoohaa", sum := "60f8298df74728ade0ebef20ed3ce1cf2b9846772c11d50353e686b757b46a0d", func := "loop.example/copiedtexts/laws.FnShelfFind", spec := "fnShelfFind", apart := false }
def FnShelfFindSaid : Prop := fnShelfFindRow.holds Try.pinned (OpenSpec.ofChange fnShelfFindSpec)

/-- ITS FALSE NEIGHBOUR: 'it returns false'. Refute it at one input. -/
def fnShelfFindWrong : ChangeSpec := { name := "fnShelfFind", fn := fun _ => fun
  | [d] => { results := [.lit (.bool false)], args := [d] }
  | _ => none }
def FnShelfFindWrongFalsely : Prop := fnShelfFindRow.holds Try.pinned (OpenSpec.ofChange fnShelfFindWrong)

/-- 'laws.FnShelfDocs': WHATEVER THE INPUT: true; the input reads as it did. -/
def fnShelfDocsSpec : ChangeSpec := { name := "fnShelfDocs", fn := fun _ => fun
  | [d] => { results := [.lit (.bool true)], args := [d] }
  | _ => none }
def fnShelfDocsRow : OpenClaim := { program := "yteieolkpmjoohaa", sum := "60f8298df74728ade0ebef20ed3ce1cf2b9846772c11d50353e686b757b46a0d", func := "loop.example/copiedtexts/laws.FnShelfDocs", spec := "fnShelfDocs", recurses := true, apart := false }
def FnShelfDocsSaid : Prop := fnShelfDocsRow.holds Try.pinned (OpenSpec.ofChange fnShelfDocsSpec)

/-- ITS FALSE NEIGHBOUR: 'it returns false'. Refute it at one input. -/
def fnShelfDocsWrong : ChangeSpec := { name := "fnShelfDocs", fn := fun _ => fun
  | [d] => { results := [.lit (.bool false)], args := [d] }
  | _ => none }
def FnShelfDocsWrongFalsely : Prop := fnShelfDocsRow.holds Try.pinned (OpenSpec.ofChange fnShelfDocsWrong)

/-- 'laws.FnShelfAsk': WHATEVER THE INPUT: true; the input reads as it did. -/
def fnShelfAskSpec : ChangeSpec := { name := "fnShelfAsk", fn := fun _ => fun
  | [d] => { results := [.lit (.bool true)], args := [d] }
  | _ => none }
def fnShelfAskRow : OpenClaim := { program := "yteieolkpmjoohaa", sum := "60f8298df74728ade0ebef20ed3ce1cf2b9846772c11d50353e686b757b46a0d", func := "loop.example/copiedtexts/laws.FnShelfAsk", spec := "fnShelfAsk", recurses := true, apart := false }
def FnShelfAskSaid : Prop := fnShelfAskRow.holds Try.pinned (OpenSpec.ofChange fnShelfAskSpec)

/-- ITS FALSE NEIGHBOUR: 'it returns false'. Refute it at one input. -/
def fnShelfAskWrong : ChangeSpec := { name := "fnShelfAsk", fn := fun _ => fun
  | [d] => { results := [.lit (.bool false)], args := [d] }
  | _ => none }
def FnShelfAskWrongFalsely : Prop := fnShelfAskRow.holds Try.pinned (OpenSpec.ofChange fnShelfAskWrong)

/-- 'laws.FnAnyShelfThree': WHATEVER THE INPUT: true; the input reads as it did. -/
def fnAnyShelfThreeSpec : ChangeSpec := { name := "fnAnyShelfThree", fn := fun _ => fun
  | [d1, d2, d3] => { results := [.lit (.bool true)], args := [d1, d2, d3] }
  | _ => none }
def fnAnyShelfThreeRow : OpenClaim := { program := "yteieolkpmjoohaa", sum := "60f8298df74728ade0ebef20ed3ce1cf2b9846772c11d50353e686b757b46a0d", func := "loop.example/copiedtexts/laws.FnAnyShelfThree", spec := "fnAnyShelfThree", apart := false }
def FnAnyShelfThreeSaid : Prop := fnAnyShelfThreeRow.holds Try.pinned (OpenSpec.ofChange fnAnyShelfThreeSpec)

/-- ITS FALSE NEIGHBOUR: 'it returns false'. Refute it at one input. -/
def fnAnyShelfThreeWrong : ChangeSpec := { name := "fnAnyShelfThree", fn := fun _ => fun
  | [d1, d2, d3] => { results := [.lit (.bool false)], args := [d1, d2, d3] }
  | _ => none }
def FnAnyShelfThreeWrongFalsely : Prop := fnAnyShelfThreeRow.holds Try.pinned (OpenSpec.ofChange fnAnyShelfThreeWrong)

/-- 'laws.FnAnyShelfAsk': WHATEVER THE INPUT: true; the input reads as it did. -/
def fnAnyShelfAskSpec : ChangeSpec := { name := "fnAnyShelfAsk", fn := fun _ => fun
  | [d1, d2] => { results := [.lit (.bool true)], args := [d1, d2] }
  | _ => none }
def fnAnyShelfAskRow : OpenClaim := { program := "yteieolkpmjoohaa", sum := "60f8298df74728ade0ebef20ed3ce1cf2b9846772c11d50353e686b757b46a0d", func := "loop.example/copiedtexts/laws.FnAnyShelfAsk", spec := "fnAnyShelfAsk", recurses := true, apart := false }
def FnAnyShelfAskSaid : Prop := fnAnyShelfAskRow.holds Try.pinned (OpenSpec.ofChange fnAnyShelfAskSpec)

/-- ITS FALSE NEIGHBOUR: 'it returns false'. Refute it at one input. -/
def fnAnyShelfAskWrong : ChangeSpec := { name := "fnAnyShelfAsk", fn := fun _ => fun
  | [d1, d2] => { results := [.lit (.bool false)], args := [d1, d2] }
  | _ => none }
def FnAnyShelfAskWrongFalsely : Prop := fnAnyShelfAskRow.holds Try.pinned (OpenSpec.ofChange fnAnyShelfAskWrong)

/- THE SECOND FORM. 'bulk': how many values and letters a reading holds, each counted each time it is reached (what is shared counts as often as it is met; a slice's spare places count too). A statement '..UptoSaid' is the law's where the arguments, and the package variables that the reading takes, are together of bulk at most 1048576: NARROWER than '..Said'. Prove '..Said' where nothing that the law and all that it calls make is longer than what came in: it says more and counts as full. Else prove '..UptoSaid'. A law counts once. -/
mutual
def uptoBulk {H : Type} : DataW H → Nat
  | .lit (.string bytes) => bytes.length + 1
  | .lit _ => 1
  | .nil => 1
  | .ptr d => uptoBulk d + 1
  | .slice elems spare => uptoBulkAll elems + uptoBulkAll spare + 1
  | .agg parts => uptoBulkAll parts + 1
  | .iface _ d => uptoBulk d + 1
  | .map entries => uptoBulkEntries entries + 1
  | .held _ => 1
def uptoBulkAll {H : Type} : List (DataW H) → Nat
  | [] => 0
  | d :: r => uptoBulk d + uptoBulkAll r
def uptoBulkEntries {H : Type} : List (Lit × DataW H) → Nat
  | [] => 0
  | x :: r => uptoBulkEntry x + uptoBulkEntries r
def uptoBulkEntry {H : Type} : Lit × DataW H → Nat
  | (.string bytes, d) => bytes.length + uptoBulk d + 1
  | (_, d) => uptoBulk d + 1
 end
def uptoSmall : (H : Type) → List (DataW H) → Bool := fun _ ds => decide (uptoBulkAll ds ≤ 1048576)
def OpenSpec.upto (s : _root_.Go.ChangeSpec) : _root_.Go.OpenSpec := { _root_.Go.OpenSpec.ofChange s with cond := some uptoSmall }

/-- 'laws.FnEntryLess', WHERE WHAT IT READS IS OF BULK AT MOST 1048576: true; the input reads as it did. -/
def fnEntryLessUptoRow : OpenClaim := { program := "yteieolkpmjoohaa", sum := "60f8298df74728ade0ebef20ed3ce1cf2b9846772c11d50353e686b757b46a0d", func := "loop.example/copiedtexts/laws.FnEntryLess", spec := "fnEntryLess", apart := false, narrowed := true }
def FnEntryLessUptoSaid : Prop := fnEntryLessUptoRow.holds Try.pinned (OpenSpec.upto fnEntryLessSpec)

/-- 'laws.FnShelfOk', WHERE WHAT IT READS IS OF BULK AT MOST 1048576: true; the input reads as it did. -/
def fnShelfOkUptoRow : OpenClaim := { program := "yteieolkpmjoohaa", sum := "60f8298df74728ade0ebef20ed3ce1cf2b9846772c11d50353e686b757b46a0d", func := "loop.example/copiedtexts/laws.FnShelfOk", spec := "fnShelfOk", apart := false, narrowed := true }
def FnShelfOkUptoSaid : Prop := fnShelfOkUptoRow.holds Try.pinned (OpenSpec.upto fnShelfOkSpec)

/-- 'laws.FnShelfOf', WHERE WHAT IT READS IS OF BULK AT MOST 1048576: true; the input reads as it did. -/
def fnShelfOfUptoRow : OpenClaim := { program := "yteieolkpmjoohaa", sum := "60f8298df74728ade0ebef20ed3ce1cf2b9846772c11d50353e686b757b46a0d", func := "loop.example/copiedtexts/laws.FnShelfOf", spec := "fnShelfOf", recurses := true, apart := false, narrowed := true }
def FnShelfOfUptoSaid : Prop := fnShelfOfUptoRow.holds Try.pinned (OpenSpec.upto fnShelfOfSpec)

/-- 'laws.FnShelfJoin', WHERE WHAT IT READS IS OF BULK AT MOST 1048576: true; the input reads as it did. -/
def fnShelfJoinUptoRow : OpenClaim := { program := "yteieolkpmjoohaa", sum := "60f8298df74728ade0ebef20ed3ce1cf2b9846772c11d50353e686b757b46a0d", func := "loop.example/copiedtexts/laws.FnShelfJoin", spec := "fnShelfJoin", apart := false, narrowed := true }
def FnShelfJoinUptoSaid : Prop := fnShelfJoinUptoRow.holds Try.pinned (OpenSpec.upto fnShelfJoinSpec)

/-- 'laws.FnShelfThree', WHERE WHAT IT READS IS OF BULK AT MOST 1048576: true; the input reads as it did. -/
def fnShelfThreeUptoRow : OpenClaim := { program := "yteieolkpmjoohaa", sum := "60f8298df74728ade0ebef20ed3ce1cf2b9846772c11d50353e686b757b46a0d", func := "loop.example/copiedtexts/laws.FnShelfThree", spec := "fnShelfThree", apart := false, narrowed := true }
def FnShelfThreeUptoSaid : Prop := fnShelfThreeUptoRow.holds Try.pinned (OpenSpec.upto fnShelfThreeSpec)

/-- 'laws.FnShelfLose', WHERE WHAT IT READS IS OF BULK AT MOST 1048576: true; the input reads as it did. -/
def fnShelfLoseUptoRow : OpenClaim := { program := "yteieolkpmjoohaa", sum := "60f8298df74728ade0ebef20ed3ce1cf2b9846772c11d50353e686b757b46a0d", func := "loop.example/copiedtexts/laws.FnShelfLose", spec := "fnShelfLose", recurses := true, apart := false, narrowed := true }
def FnShelfLoseUptoSaid : Prop := fnShelfLoseUptoRow.holds Try.pinned (OpenSpec.upto fnShelfLoseSpec)

/-- 'laws.FnShelfFind', WHERE WHAT IT READS IS OF BULK AT MOST 1048576: true; the input reads as it did. -/
def fnShelfFindUptoRow : OpenClaim := { program := "yteieolkpmjoohaa", sum := "60f8298df74728ade0ebef20ed3ce1cf2b9846772c11d50353e686b757b46a0d", func := "loop.example/copiedtexts/laws.FnShelfFind", spec := "fnShelfFind", apart := false, narrowed := true }
def FnShelfFindUptoSaid : Prop := fnShelfFindUptoRow.holds Try.pinned (OpenSpec.upto fnShelfFindSpec)

/-- 'laws.FnShelfDocs', WHERE WHAT IT READS IS OF BULK AT MOST 1048576: true; the input reads as it did. -/
def fnShelfDocsUptoRow : OpenClaim := { program := "yteieolkpmjoohaa", sum := "60f8298df74728ade0ebef20ed3ce1cf2b9846772c11d50353e686b757b46a0d", func := "loop.example/copiedtexts/laws.FnShelfDocs", spec := "fnShelfDocs", recurses := true, apart := false, narrowed := true }
def FnShelfDocsUptoSaid : Prop := fnShelfDocsUptoRow.holds Try.pinned (OpenSpec.upto fnShelfDocsSpec)

/-- 'laws.FnShelfAsk', WHERE WHAT IT READS IS OF BULK AT MOST 1048576: true; the input reads as it did. -/
def fnShelfAskUptoRow : OpenClaim := { program := "yteieolkpmjoohaa", sum := "60f8298df74728ade0ebef20ed3ce1cf2b9846772c11d50353e686b757b46a0d", func := "loop.example/copiedtexts/laws.FnShelfAsk", spec := "fnShelfAsk", recurses := true, apart := false, narrowed := true }
def FnShelfAskUptoSaid : Prop := fnShelfAskUptoRow.holds Try.pinned (OpenSpec.upto fnShelfAskSpec)

/-- 'laws.FnAnyShelfThree', WHERE WHAT IT READS IS OF BULK AT MOST 1048576: true; the input reads as it did. -/
def fnAnyShelfThreeUptoRow : OpenClaim := { program := "yteieolkpmjoohaa", sum := "60f8298df74728ade0ebef20ed3ce1cf2b9846772c11d50353e686b757b46a0d", func := "loop.example/copiedtexts/laws.FnAnyShelfThree", spec := "fnAnyShelfThree", apart := false, narrowed := true }
def FnAnyShelfThreeUptoSaid : Prop := fnAnyShelfThreeUptoRow.holds Try.pinned (OpenSpec.upto fnAnyShelfThreeSpec)

/-- 'laws.FnAnyShelfAsk', WHERE WHAT IT READS IS OF BULK AT MOST 1048576: true; the input reads as it did. -/
def fnAnyShelfAskUptoRow : OpenClaim := { program := "yteieolkpmjoohaa", sum := "60f8298df74728ade0ebef20ed3ce1cf2b9846772c11d50353e686b757b46a0d", func := "loop.example/copiedtexts/laws.FnAnyShelfAsk", spec := "fnAnyShelfAsk", recurses := true, apart := false, narrowed := true }
def FnAnyShelfAskUptoSaid : Prop := fnAnyShelfAskUptoRow.holds Try.pinned (OpenSpec.upto fnAnyShelfAskSpec)

end Rows
end Go.Proofs.Yteieolkpmjoohaa
