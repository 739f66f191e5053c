/-
  No cell of these rows narrows 'for every input' (looked for: loops, veiled, ifaces, maps, wideKeys, modest, calm, conditions, laid).
  DERIVED. THE GIVEN ROWS OF THIS SEAT. 7 by the template 'for every input the law returns true; each argument reads behind the call as it read before'; 0 by the template 'total and deterministic' (their statements: YtpheiapnhgllnaaTotals.lean).
  GIVEN WITH THE SEED: the statements are not yours to turn. If you find one false, say at which input.
  Laid BY PROGRAM, IN A SANDBOX (cutbox-rows.mjs): the forced cells as the released guide's own fill.sh prints them over the translation 19f96720c0c0952e… (all of the seat's roots in one cut). By AI agents, Wed Nov 11 2026. No macro, syntax, notation, axiom, sorry.
-/
import Derived.Test.YtpheiapnhgllnaaChecked
import GoSem.Claim
import GoSem.ClaimJoined
import GoSem.ClaimMapViews
import Derived.JoinedTies
import Derived.KernelRfl
namespace Go.Proofs.Ytpheiapnhgllnaa
/- THE CELL 'sum', in the pinned program and in every row, IS THE sha256 OF THE DUMP (.gsa) THAT YtpheiapnhgllnaaProg.lean LOADS. Nothing in Lean hashes anything: it is a label: what it is worth is what the hold of that sum in a sandbox is worth. -/
noncomputable def Try.pinned : Pinned := { name := "ytpheiapnhgllnaa", sum := "19f96720c0c0952e1d63767f74f420c429878efae8db7b2f7261aa45612961df", checked := Try.checked }
namespace Rows
def none {H : Type} : Left H := { results := [], args := [] }

/-- 'laws.FnPrintOf': WHATEVER THE INPUT: true; the input reads as it did. -/
def fnPrintOfSpec : ChangeSpec := { name := "fnPrintOf", fn := fun _ => fun
  | [d] => { results := [.lit (.bool true)], args := [d] }
  | _ => none }
def fnPrintOfRow : OpenClaim := { program := "ytpheiapnhgllnaa", sum := "19f96720c0c0952e1d63767f74f420c429878efae8db7b2f7261aa45612961df", func := "loop.example/copiedtexts/laws.FnPrintOf", spec := "fnPrintOf", apart := false }
def FnPrintOfSaid : Prop := fnPrintOfRow.holds Try.pinned (OpenSpec.ofChange fnPrintOfSpec)

/-- ITS FALSE NEIGHBOUR: 'it returns false'. Refute it at one input. -/
def fnPrintOfWrong : ChangeSpec := { name := "fnPrintOf", fn := fun _ => fun
  | [d] => { results := [.lit (.bool false)], args := [d] }
  | _ => none }
def FnPrintOfWrongFalsely : Prop := fnPrintOfRow.holds Try.pinned (OpenSpec.ofChange fnPrintOfWrong)

/-- 'laws.FnPrintPower': WHATEVER THE INPUT: true; the input reads as it did. -/
def fnPrintPowerSpec : ChangeSpec := { name := "fnPrintPower", fn := fun _ => fun
  | [d] => { results := [.lit (.bool true)], args := [d] }
  | _ => none }
def fnPrintPowerRow : OpenClaim := { program := "ytpheiapnhgllnaa", sum := "19f96720c0c0952e1d63767f74f420c429878efae8db7b2f7261aa45612961df", func := "loop.example/copiedtexts/laws.FnPrintPower", spec := "fnPrintPower", apart := false }
def FnPrintPowerSaid : Prop := fnPrintPowerRow.holds Try.pinned (OpenSpec.ofChange fnPrintPowerSpec)

/-- ITS FALSE NEIGHBOUR: 'it returns false'. Refute it at one input. -/
def fnPrintPowerWrong : ChangeSpec := { name := "fnPrintPower", fn := fun _ => fun
  | [d] => { results := [.lit (.bool false)], args := [d] }
  | _ => none }
def FnPrintPowerWrongFalsely : Prop := fnPrintPowerRow.holds Try.pinned (OpenSpec.ofChange fnPrintPowerWrong)

/-- 'laws.FnPrintsOf': WHATEVER THE INPUT: true; the input reads as it did. -/
def fnPrintsOfSpec : ChangeSpec := { name := "fnPrintsOf", fn := fun _ => fun
  | [d] => { results := [.lit (.bool true)], args := [d] }
  | _ => none }
def fnPrintsOfRow : OpenClaim := { program := "ytpheiapnhgllnaa", sum := "19f96720c0c0952e1d63767f74f420c429878efae8db7b2f7261aa45612961df", func := "loop.example/copiedtexts/laws.FnPrintsOf", spec := "fnPrintsOf", apart := false }
def FnPrintsOfSaid : Prop := fnPrintsOfRow.holds Try.pinned (OpenSpec.ofChange fnPrintsOfSpec)

/-- ITS FALSE NEIGHBOUR: 'it returns false'. Refute it at one input. -/
def fnPrintsOfWrong : ChangeSpec := { name := "fnPrintsOf", fn := fun _ => fun
  | [d] => { results := [.lit (.bool false)], args := [d] }
  | _ => none }
def FnPrintsOfWrongFalsely : Prop := fnPrintsOfRow.holds Try.pinned (OpenSpec.ofChange fnPrintsOfWrong)

/-- 'laws.FnRollPrint': WHATEVER THE INPUT: true; the input reads as it did. -/
def fnRollPrintSpec : ChangeSpec := { name := "fnRollPrint", fn := fun _ => fun
  | [d] => { results := [.lit (.bool true)], args := [d] }
  | _ => none }
def fnRollPrintRow : OpenClaim := { program := "ytpheiapnhgllnaa", sum := "19f96720c0c0952e1d63767f74f420c429878efae8db7b2f7261aa45612961df", func := "loop.example/copiedtexts/laws.FnRollPrint", spec := "fnRollPrint", apart := false }
def FnRollPrintSaid : Prop := fnRollPrintRow.holds Try.pinned (OpenSpec.ofChange fnRollPrintSpec)

/-- ITS FALSE NEIGHBOUR: 'it returns false'. Refute it at one input. -/
def fnRollPrintWrong : ChangeSpec := { name := "fnRollPrint", fn := fun _ => fun
  | [d] => { results := [.lit (.bool false)], args := [d] }
  | _ => none }
def FnRollPrintWrongFalsely : Prop := fnRollPrintRow.holds Try.pinned (OpenSpec.ofChange fnRollPrintWrong)

/-- 'laws.FnJoinPrint': WHATEVER THE INPUT: true; the input reads as it did. -/
def fnJoinPrintSpec : ChangeSpec := { name := "fnJoinPrint", fn := fun _ => fun
  | [d] => { results := [.lit (.bool true)], args := [d] }
  | _ => none }
def fnJoinPrintRow : OpenClaim := { program := "ytpheiapnhgllnaa", sum := "19f96720c0c0952e1d63767f74f420c429878efae8db7b2f7261aa45612961df", func := "loop.example/copiedtexts/laws.FnJoinPrint", spec := "fnJoinPrint", apart := false }
def FnJoinPrintSaid : Prop := fnJoinPrintRow.holds Try.pinned (OpenSpec.ofChange fnJoinPrintSpec)

/-- ITS FALSE NEIGHBOUR: 'it returns false'. Refute it at one input. -/
def fnJoinPrintWrong : ChangeSpec := { name := "fnJoinPrint", fn := fun _ => fun
  | [d] => { results := [.lit (.bool false)], args := [d] }
  | _ => none }
def FnJoinPrintWrongFalsely : Prop := fnJoinPrintRow.holds Try.pinned (OpenSpec.ofChange fnJoinPrintWrong)

/-- 'laws.FnFindPrint': WHATEVER THE INPUT: true; the input reads as it did. -/
def fnFindPrintSpec : ChangeSpec := { name := "fnFindPrint", fn := fun _ => fun
  | [d] => { results := [.lit (.bool true)], args := [d] }
  | _ => none }
def fnFindPrintRow : OpenClaim := { program := "ytpheiapnhgllnaa", sum := "19f96720c0c0952e1d63767f74f420c429878efae8db7b2f7261aa45612961df", func := "loop.example/copiedtexts/laws.FnFindPrint", spec := "fnFindPrint", apart := false }
def FnFindPrintSaid : Prop := fnFindPrintRow.holds Try.pinned (OpenSpec.ofChange fnFindPrintSpec)

/-- ITS FALSE NEIGHBOUR: 'it returns false'. Refute it at one input. -/
def fnFindPrintWrong : ChangeSpec := { name := "fnFindPrint", fn := fun _ => fun
  | [d] => { results := [.lit (.bool false)], args := [d] }
  | _ => none }
def FnFindPrintWrongFalsely : Prop := fnFindPrintRow.holds Try.pinned (OpenSpec.ofChange fnFindPrintWrong)

/-- 'laws.FnAnyPrintsOf': WHATEVER THE INPUT: true; the input reads as it did. -/
def fnAnyPrintsOfSpec : ChangeSpec := { name := "fnAnyPrintsOf", fn := fun _ => fun
  | [d1, d2] => { results := [.lit (.bool true)], args := [d1, d2] }
  | _ => none }
def fnAnyPrintsOfRow : OpenClaim := { program := "ytpheiapnhgllnaa", sum := "19f96720c0c0952e1d63767f74f420c429878efae8db7b2f7261aa45612961df", func := "loop.example/copiedtexts/laws.FnAnyPrintsOf", spec := "fnAnyPrintsOf", apart := false }
def FnAnyPrintsOfSaid : Prop := fnAnyPrintsOfRow.holds Try.pinned (OpenSpec.ofChange fnAnyPrintsOfSpec)

/-- ITS FALSE NEIGHBOUR: 'it returns false'. Refute it at one input. -/
def fnAnyPrintsOfWrong : ChangeSpec := { name := "fnAnyPrintsOf", fn := fun _ => fun
  | [d1, d2] => { results := [.lit (.bool false)], args := [d1, d2] }
  | _ => none }
def FnAnyPrintsOfWrongFalsely : Prop := fnAnyPrintsOfRow.holds Try.pinned (OpenSpec.ofChange fnAnyPrintsOfWrong)

/- THE SECOND FORM. 'bulk': how many values and letters a reading holds, each counted each time it is reached (what is shared counts as often as it is met; a slice's spare places count too). A statement '..UptoSaid' is the law's where the arguments, and the package variables that the reading takes, are together of bulk at most 1048576: NARROWER than '..Said'. Prove '..Said' where nothing that the law and all that it calls make is longer than what came in: it says more and counts as full. Else prove '..UptoSaid'. A law counts once. -/
mutual
def uptoBulk {H : Type} : DataW H → Nat
  | .lit (.string bytes) => bytes.length + 1
  | .lit _ => 1
  | .nil => 1
  | .ptr d => uptoBulk d + 1
  | .slice elems spare => uptoBulkAll elems + uptoBulkAll spare + 1
  | .agg parts => uptoBulkAll parts + 1
  | .iface _ d => uptoBulk d + 1
  | .map entries => uptoBulkEntries entries + 1
  | .held _ => 1
def uptoBulkAll {H : Type} : List (DataW H) → Nat
  | [] => 0
  | d :: r => uptoBulk d + uptoBulkAll r
def uptoBulkEntries {H : Type} : List (Lit × DataW H) → Nat
  | [] => 0
  | x :: r => uptoBulkEntry x + uptoBulkEntries r
def uptoBulkEntry {H : Type} : Lit × DataW H → Nat
  | (.string bytes, d) => bytes.length + uptoBulk d + 1
  | (_, d) => uptoBulk d + 1
 end
def uptoSmall : (H : Type) → List (DataW H) → Bool := fun _ ds => decide (uptoBulkAll ds ≤ 1048576)
def OpenSpec.upto (s : _root_.Go.ChangeSpec) : _root_.Go.OpenSpec := { _root_.Go.OpenSpec.ofChange s with cond := some uptoSmall }

/-- 'laws.FnPrintOf', WHERE WHAT IT READS IS OF BULK AT MOST 1048576: true; the input reads as it did. -/
def fnPrintOfUptoRow : OpenClaim := { program := "ytpheiapnhgllnaa", sum := "19f96720c0c0952e1d63767f74f420c429878efae8db7b2f7261aa45612961df", func := "loop.example/copiedtexts/laws.FnPrintOf", spec := "fnPrintOf", apart := false, narrowed := true }
def FnPrintOfUptoSaid : Prop := fnPrintOfUptoRow.holds Try.pinned (OpenSpec.upto fnPrintOfSpec)

/-- 'laws.FnPrintPower', WHERE WHAT IT READS IS OF BULK AT MOST 1048576: true; the input reads as it did. -/
def fnPrintPowerUptoRow : OpenClaim := { program := "ytpheiapnhgllnaa", sum := "19f96720c0c0952e1d63767f74f420c429878efae8db7b2f7261aa45612961df", func := "loop.example/copiedtexts/laws.FnPrintPower", spec := "fnPrintPower", apart := false, narrowed := true }
def FnPrintPowerUptoSaid : Prop := fnPrintPowerUptoRow.holds Try.pinned (OpenSpec.upto fnPrintPowerSpec)

/-- 'laws.FnPrintsOf', WHERE WHAT IT READS IS OF BULK AT MOST 1048576: true; the input reads as it did. -/
def fnPrintsOfUptoRow : OpenClaim := { program := "ytpheiapnhgllnaa", sum := "19f96720c0c0952e1d63767f74f420c429878efae8db7b2f7261aa45612961df", func := "loop.example/copiedtexts/laws.FnPrintsOf", spec := "fnPrintsOf", apart := false, narrowed := true }
def FnPrintsOfUptoSaid : Prop := fnPrintsOfUptoRow.holds Try.pinned (OpenSpec.upto fnPrintsOfSpec)

/-- 'laws.FnRollPrint', WHERE WHAT IT READS IS OF BULK AT MOST 1048576: true; the input reads as it did. -/
def fnRollPrintUptoRow : OpenClaim := { program := "ytpheiapnhgllnaa", sum := "19f96720c0c0952e1d63767f74f420c429878efae8db7b2f7261aa45612961df", func := "loop.example/copiedtexts/laws.FnRollPrint", spec := "fnRollPrint", apart := false, narrowed := true }
def FnRollPrintUptoSaid : Prop := fnRollPrintUptoRow.holds Try.pinned (OpenSpec.upto fnRollPrintSpec)

/-- 'laws.FnJoinPrint', WHERE WHAT IT READS IS OF BULK AT MOST 1048576: true; the input reads as it did. -/
def fnJoinPrintUptoRow : OpenClaim := { program := "ytpheiapnhgllnaa", sum := "19f96720c0c0952e1d63767f74f420c429878efae8db7b2f7261aa45612961df", func := "loop.example/copiedtexts/laws.FnJoinPrint", spec := "fnJoinPrint", apart := false, narrowed := true }
def FnJoinPrintUptoSaid : Prop := fnJoinPrintUptoRow.holds Try.pinned (OpenSpec.upto fnJoinPrintSpec)

/-- 'laws.FnFindPrint', WHERE WHAT IT READS IS OF BULK AT MOST 1048576: true; the input reads as it did. -/
def fnFindPrintUptoRow : OpenClaim := { program := "ytpheiapnhgllnaa", sum := "19f96720c0c0952e1d63767f74f420c429878efae8db7b2f7261aa45612961df", func := "loop.example/copiedtexts/laws.FnFindPrint", spec := "fnFindPrint", apart := false, narrowed := true }
def FnFindPrintUptoSaid : Prop := fnFindPrintUptoRow.holds Try.pinned (OpenSpec.upto fnFindPrintSpec)

/-- 'laws.FnAnyPrintsOf', WHERE WHAT IT READS IS OF BULK AT MOST 1048576: true; the input reads as it did. -/
def fnAnyPrintsOfUptoRow : OpenClaim := { program := "ytpheiapnhgllnaa", sum := "19f96720c0c0952e1d63767f74f420c429878efae8db7b2f7261aa45612961df", func := "loop.example/copiedtexts/laws.FnAnyPrintsOf", spec := "fnAnyPrintsOf", apart := false, narrowed := true }
def FnAnyPrintsOfUptoSaid : Prop := fnAnyPrintsOfUptoRow.holds Try.pinned (OpenSpec.upto fnAnyPrintsOfSpec)

end Rows
end Go.Proofs.Ytpheiapnhgllnaa
