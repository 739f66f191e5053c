/-
  No cell of these rows narrows 'for every input' (looked for: loops, veiled, ifaces, maps, wideKeys, modest, calm, conditions, laid).
  DERIVED. THE GIVEN ROWS OF THIS SEAT. 6 by the template 'for every input the law returns true; each argument reads behind the call as it read before'; 0 by the template 'total and deterministic' (their statements: YtoeaaeoajnajdaaTotals.lean).
  GIVEN WITH THE SEED: the statements are not yours to turn. If you find one false, say at which input.
  Laid BY PROGRAM, IN A SANDBOX (cutbox-rows.mjs): the forced cells as the released guide's own fill.sh prints them over the translation 7236dd0c49892933… (all of the seat's roots in one cut). By AI agents, Wed Nov 11 2026. No macro, syntax, notation, axiom, sorry.
-/
import Derived.Test.YtoeaaeoajnajdaaChecked
import GoSem.Claim
import GoSem.ClaimJoined
import GoSem.ClaimMapViews
import Derived.JoinedTies
import Derived.KernelRfl
namespace Go.Proofs.Ytoeaaeoajnajdaa
/- THE CELL 'sum', in the pinned program and in every row, IS THE sha256 OF THE DUMP (.gsa) THAT YtoeaaeoajnajdaaProg.lean LOADS. Nothing in Lean hashes anything: it is a label: what it is worth is what the hold of that sum in a sandbox is worth. -/
noncomputable def Try.pinned : Pinned := { name := "ytoeaaeoajnajdaa", sum := "7236dd0c49892933acac729ca58c04abe597c8949001501afa811a322e6a1944", checked := Try.checked }
namespace Rows
def none {H : Type} : Left H := { results := [], args := [] }

/-- 'laws.FnExactPrintOf': WHATEVER THE INPUT: true; the input reads as it did. -/
def fnExactPrintOfSpec : ChangeSpec := { name := "fnExactPrintOf", fn := fun _ => fun
  | [d] => { results := [.lit (.bool true)], args := [d] }
  | _ => none }
def fnExactPrintOfRow : OpenClaim := { program := "ytoeaaeoajnajdaa", sum := "7236dd0c49892933acac729ca58c04abe597c8949001501afa811a322e6a1944", func := "loop.example/copiedtexts/laws.FnExactPrintOf", spec := "fnExactPrintOf", apart := false }
def FnExactPrintOfSaid : Prop := fnExactPrintOfRow.holds Try.pinned (OpenSpec.ofChange fnExactPrintOfSpec)

/-- ITS FALSE NEIGHBOUR: 'it returns false'. Refute it at one input. -/
def fnExactPrintOfWrong : ChangeSpec := { name := "fnExactPrintOf", fn := fun _ => fun
  | [d] => { results := [.lit (.bool false)], args := [d] }
  | _ => none }
def FnExactPrintOfWrongFalsely : Prop := fnExactPrintOfRow.holds Try.pinned (OpenSpec.ofChange fnExactPrintOfWrong)

/-- 'laws.FnExactPrintPower': WHATEVER THE INPUT: true; the input reads as it did. -/
def fnExactPrintPowerSpec : ChangeSpec := { name := "fnExactPrintPower", fn := fun _ => fun
  | [d] => { results := [.lit (.bool true)], args := [d] }
  | _ => none }
def fnExactPrintPowerRow : OpenClaim := { program := "ytoeaaeoajnajdaa", sum := "7236dd0c49892933acac729ca58c04abe597c8949001501afa811a322e6a1944", func := "loop.example/copiedtexts/laws.FnExactPrintPower", spec := "fnExactPrintPower", apart := false }
def FnExactPrintPowerSaid : Prop := fnExactPrintPowerRow.holds Try.pinned (OpenSpec.ofChange fnExactPrintPowerSpec)

/-- ITS FALSE NEIGHBOUR: 'it returns false'. Refute it at one input. -/
def fnExactPrintPowerWrong : ChangeSpec := { name := "fnExactPrintPower", fn := fun _ => fun
  | [d] => { results := [.lit (.bool false)], args := [d] }
  | _ => none }
def FnExactPrintPowerWrongFalsely : Prop := fnExactPrintPowerRow.holds Try.pinned (OpenSpec.ofChange fnExactPrintPowerWrong)

/-- 'laws.FnExactPrintsOf': WHATEVER THE INPUT: true; the input reads as it did. -/
def fnExactPrintsOfSpec : ChangeSpec := { name := "fnExactPrintsOf", fn := fun _ => fun
  | [d1, d2] => { results := [.lit (.bool true)], args := [d1, d2] }
  | _ => none }
def fnExactPrintsOfRow : OpenClaim := { program := "ytoeaaeoajnajdaa", sum := "7236dd0c49892933acac729ca58c04abe597c8949001501afa811a322e6a1944", func := "loop.example/copiedtexts/laws.FnExactPrintsOf", spec := "fnExactPrintsOf", apart := false }
def FnExactPrintsOfSaid : Prop := fnExactPrintsOfRow.holds Try.pinned (OpenSpec.ofChange fnExactPrintsOfSpec)

/-- ITS FALSE NEIGHBOUR: 'it returns false'. Refute it at one input. -/
def fnExactPrintsOfWrong : ChangeSpec := { name := "fnExactPrintsOf", fn := fun _ => fun
  | [d1, d2] => { results := [.lit (.bool false)], args := [d1, d2] }
  | _ => none }
def FnExactPrintsOfWrongFalsely : Prop := fnExactPrintsOfRow.holds Try.pinned (OpenSpec.ofChange fnExactPrintsOfWrong)

/-- 'laws.FnExactRollPrint': WHATEVER THE INPUT: true; the input reads as it did. -/
def fnExactRollPrintSpec : ChangeSpec := { name := "fnExactRollPrint", fn := fun _ => fun
  | [d1, d2, d3, d4] => { results := [.lit (.bool true)], args := [d1, d2, d3, d4] }
  | _ => none }
def fnExactRollPrintRow : OpenClaim := { program := "ytoeaaeoajnajdaa", sum := "7236dd0c49892933acac729ca58c04abe597c8949001501afa811a322e6a1944", func := "loop.example/copiedtexts/laws.FnExactRollPrint", spec := "fnExactRollPrint", apart := false }
def FnExactRollPrintSaid : Prop := fnExactRollPrintRow.holds Try.pinned (OpenSpec.ofChange fnExactRollPrintSpec)

/-- ITS FALSE NEIGHBOUR: 'it returns false'. Refute it at one input. -/
def fnExactRollPrintWrong : ChangeSpec := { name := "fnExactRollPrint", fn := fun _ => fun
  | [d1, d2, d3, d4] => { results := [.lit (.bool false)], args := [d1, d2, d3, d4] }
  | _ => none }
def FnExactRollPrintWrongFalsely : Prop := fnExactRollPrintRow.holds Try.pinned (OpenSpec.ofChange fnExactRollPrintWrong)

/-- 'laws.FnExactJoinPrint': WHATEVER THE INPUT: true; the input reads as it did. -/
def fnExactJoinPrintSpec : ChangeSpec := { name := "fnExactJoinPrint", fn := fun _ => fun
  | [d1, d2, d3] => { results := [.lit (.bool true)], args := [d1, d2, d3] }
  | _ => none }
def fnExactJoinPrintRow : OpenClaim := { program := "ytoeaaeoajnajdaa", sum := "7236dd0c49892933acac729ca58c04abe597c8949001501afa811a322e6a1944", func := "loop.example/copiedtexts/laws.FnExactJoinPrint", spec := "fnExactJoinPrint", apart := false }
def FnExactJoinPrintSaid : Prop := fnExactJoinPrintRow.holds Try.pinned (OpenSpec.ofChange fnExactJoinPrintSpec)

/-- ITS FALSE NEIGHBOUR: 'it returns false'. Refute it at one input. -/
def fnExactJoinPrintWrong : ChangeSpec := { name := "fnExactJoinPrint", fn := fun _ => fun
  | [d1, d2, d3] => { results := [.lit (.bool false)], args := [d1, d2, d3] }
  | _ => none }
def FnExactJoinPrintWrongFalsely : Prop := fnExactJoinPrintRow.holds Try.pinned (OpenSpec.ofChange fnExactJoinPrintWrong)

/-- 'laws.FnExactFindPrint': WHATEVER THE INPUT: true; the input reads as it did. -/
def fnExactFindPrintSpec : ChangeSpec := { name := "fnExactFindPrint", fn := fun _ => fun
  | [d1, d2] => { results := [.lit (.bool true)], args := [d1, d2] }
  | _ => none }
def fnExactFindPrintRow : OpenClaim := { program := "ytoeaaeoajnajdaa", sum := "7236dd0c49892933acac729ca58c04abe597c8949001501afa811a322e6a1944", func := "loop.example/copiedtexts/laws.FnExactFindPrint", spec := "fnExactFindPrint", apart := false }
def FnExactFindPrintSaid : Prop := fnExactFindPrintRow.holds Try.pinned (OpenSpec.ofChange fnExactFindPrintSpec)

/-- ITS FALSE NEIGHBOUR: 'it returns false'. Refute it at one input. -/
def fnExactFindPrintWrong : ChangeSpec := { name := "fnExactFindPrint", fn := fun _ => fun
  | [d1, d2] => { results := [.lit (.bool false)], args := [d1, d2] }
  | _ => none }
def FnExactFindPrintWrongFalsely : Prop := fnExactFindPrintRow.holds Try.pinned (OpenSpec.ofChange fnExactFindPrintWrong)

/- THE SECOND FORM. 'bulk': how many values and letters a reading holds, each counted each time it is reached (what is shared counts as often as it is met; a slice's spare places count too). A statement '..UptoSaid' is the law's where the arguments, and the package variables that the reading takes, are together of bulk at most 1048576: NARROWER than '..Said'. Prove '..Said' where nothing that the law and all that it calls make is longer than what came in: it says more and counts as full. Else prove '..UptoSaid'. A law counts once. -/
mutual
def uptoBulk {H : Type} : DataW H → Nat
  | .lit (.string bytes) => bytes.length + 1
  | .lit _ => 1
  | .nil => 1
  | .ptr d => uptoBulk d + 1
  | .slice elems spare => uptoBulkAll elems + uptoBulkAll spare + 1
  | .agg parts => uptoBulkAll parts + 1
  | .iface _ d => uptoBulk d + 1
  | .map entries => uptoBulkEntries entries + 1
  | .held _ => 1
def uptoBulkAll {H : Type} : List (DataW H) → Nat
  | [] => 0
  | d :: r => uptoBulk d + uptoBulkAll r
def uptoBulkEntries {H : Type} : List (Lit × DataW H) → Nat
  | [] => 0
  | x :: r => uptoBulkEntry x + uptoBulkEntries r
def uptoBulkEntry {H : Type} : Lit × DataW H → Nat
  | (.string bytes, d) => bytes.length + uptoBulk d + 1
  | (_, d) => uptoBulk d + 1
 end
def uptoSmall : (H : Type) → List (DataW H) → Bool := fun _ ds => decide (uptoBulkAll ds ≤ 1048576)
def OpenSpec.upto (s : _root_.Go.ChangeSpec) : _root_.Go.OpenSpec := { _root_.Go.OpenSpec.ofChange s with cond := some uptoSmall }

/-- 'laws.FnExactPrintOf', WHERE WHAT IT READS IS OF BULK AT MOST 1048576: true; the input reads as it did. -/
def fnExactPrintOfUptoRow : OpenClaim := { program := "ytoeaaeoajnajdaa", sum := "7236dd0c49892933acac729ca58c04abe597c8949001501afa811a322e6a1944", func := "loop.example/copiedtexts/laws.FnExactPrintOf", spec := "fnExactPrintOf", apart := false, narrowed := true }
def FnExactPrintOfUptoSaid : Prop := fnExactPrintOfUptoRow.holds Try.pinned (OpenSpec.upto fnExactPrintOfSpec)

/-- 'laws.FnExactPrintPower', WHERE WHAT IT READS IS OF BULK AT MOST 1048576: true; the input reads as it did. -/
def fnExactPrintPowerUptoRow : OpenClaim := { program := "ytoeaaeoajnajdaa", sum := "7236dd0c49892933acac729ca58c04abe597c8949001501afa811a322e6a1944", func := "loop.example/copiedtexts/laws.FnExactPrintPower", spec := "fnExactPrintPower", apart := false, narrowed := true }
def FnExactPrintPowerUptoSaid : Prop := fnExactPrintPowerUptoRow.holds Try.pinned (OpenSpec.upto fnExactPrintPowerSpec)

/-- 'laws.FnExactPrintsOf', WHERE WHAT IT READS IS OF BULK AT MOST 1048576: true; the input reads as it did. -/
def fnExactPrintsOfUptoRow : OpenClaim := { program := "ytoeaaeoajnajdaa", sum := "7236dd0c49892933acac729ca58c04abe597c8949001501afa811a322e6a1944", func := "loop.example/copiedtexts/laws.FnExactPrintsOf", spec := "fnExactPrintsOf", apart := false, narrowed := true }
def FnExactPrintsOfUptoSaid : Prop := fnExactPrintsOfUptoRow.holds Try.pinned (OpenSpec.upto fnExactPrintsOfSpec)

/-- 'laws.FnExactRollPrint', WHERE WHAT IT READS IS OF BULK AT MOST 1048576: true; the input reads as it did. -/
def fnExactRollPrintUptoRow : OpenClaim := { program := "ytoeaaeoajnajdaa", sum := "7236dd0c49892933acac729ca58c04abe597c8949001501afa811a322e6a1944", func := "loop.example/copiedtexts/laws.FnExactRollPrint", spec := "fnExactRollPrint", apart := false, narrowed := true }
def FnExactRollPrintUptoSaid : Prop := fnExactRollPrintUptoRow.holds Try.pinned (OpenSpec.upto fnExactRollPrintSpec)

/-- 'laws.FnExactJoinPrint', WHERE WHAT IT READS IS OF BULK AT MOST 1048576: true; the input reads as it did. -/
def fnExactJoinPrintUptoRow : OpenClaim := { program := "ytoeaaeoajnajdaa", sum := "7236dd0c49892933acac729ca58c04abe597c8949001501afa811a322e6a1944", func := "loop.example/copiedtexts/laws.FnExactJoinPrint", spec := "fnExactJoinPrint", apart := false, narrowed := true }
def FnExactJoinPrintUptoSaid : Prop := fnExactJoinPrintUptoRow.holds Try.pinned (OpenSpec.upto fnExactJoinPrintSpec)

/-- 'laws.FnExactFindPrint', WHERE WHAT IT READS IS OF BULK AT MOST 1048576: true; the input reads as it did. -/
def fnExactFindPrintUptoRow : OpenClaim := { program := "ytoeaaeoajnajdaa", sum := "7236dd0c49892933acac729ca58c04abe597c8949001501afa811a322e6a1944", func := "loop.example/copiedtexts/laws.FnExactFindPrint", spec := "fnExactFindPrint", apart := false, narrowed := true }
def FnExactFindPrintUptoSaid : Prop := fnExactFindPrintUptoRow.holds Try.pinned (OpenSpec.upto fnExactFindPrintSpec)

end Rows
end Go.Proofs.Ytoeaaeoajnajdaa
