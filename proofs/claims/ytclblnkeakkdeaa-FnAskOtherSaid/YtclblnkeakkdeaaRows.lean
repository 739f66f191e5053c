/-
  No cell of these rows narrows 'for every input' (looked for: loops, veiled, ifaces, maps, wideKeys, modest, calm, conditions, laid).
  DERIVED. THE GIVEN ROWS OF THIS SEAT. 13 by the template 'for every input the law returns true; each argument reads behind the call as it read before'; 0 by the template 'total and deterministic' (their statements: YtclblnkeakkdeaaTotals.lean).
  GIVEN WITH THE SEED: the statements are not yours to turn. If you find one false, say at which input.
  Laid BY PROGRAM, IN A SANDBOX (cutbox-rows.mjs): the forced cells as the released guide's own fill.sh prints them over the translation f40e2f4032211473… (all of the seat's roots in one cut). By AI agents, Wed Nov 11 2026. No macro, syntax, notation, axiom, sorry.
-/
import Derived.Test.YtclblnkeakkdeaaChecked
import GoSem.Claim
import GoSem.ClaimJoined
import GoSem.ClaimMapViews
import Derived.JoinedTies
import Derived.KernelRfl
namespace Go.Proofs.Ytclblnkeakkdeaa
/- THE CELL 'sum', in the pinned program and in every row, IS THE sha256 OF THE DUMP (.gsa) THAT YtclblnkeakkdeaaProg.lean LOADS. Nothing in Lean hashes anything: it is a label: what it is worth is what the hold of that sum in a sandbox is worth. -/
noncomputable def Try.pinned : Pinned := { name := "ytclblnkeakkdeaa", sum := "f40e2f4032211473e4b13b4ff7787017be69f01aaafcf11cc9fa7bc672345cdf", checked := Try.checked }
namespace Rows
def none {H : Type} : Left H := { results := [], args := [] }

/-- 'laws.FnShelfLose': WHATEVER THE INPUT: true; the input reads as it did. -/
def fnShelfLoseSpec : ChangeSpec := { name := "fnShelfLose", fn := fun _ => fun
  | [d] => { results := [.lit (.bool true)], args := [d] }
  | _ => none }
def fnShelfLoseRow : OpenClaim := { program := "ytclblnkeakkdeaa", sum := "f40e2f4032211473e4b13b4ff7787017be69f01aaafcf11cc9fa7bc672345cdf", func := "loop.example/copiedtexts/laws.FnShelfLose", spec := "fnShelfLose", recurses := true, apart := false }
def FnShelfLoseSaid : Prop := fnShelfLoseRow.holds Try.pinned (OpenSpec.ofChange fnShelfLoseSpec)

/-- ITS FALSE NEIGHBOUR: 'it returns false'. Refute it at one input. -/
def fnShelfLoseWrong : ChangeSpec := { name := "fnShelfLose", fn := fun _ => fun
  | [d] => { results := [.lit (.bool false)], args := [d] }
  | _ => none }
def FnShelfLoseWrongFalsely : Prop := fnShelfLoseRow.holds Try.pinned (OpenSpec.ofChange fnShelfLoseWrong)

/-- 'laws.FnShelfFind': WHATEVER THE INPUT: true; the input reads as it did. -/
def fnShelfFindSpec : ChangeSpec := { name := "fnShelfFind", fn := fun _ => fun
  | [d] => { results := [.lit (.bool true)], args := [d] }
  | _ => none }
def fnShelfFindRow : OpenClaim := { program := "ytclblnkeakkdeaa", sum := "f40e2f4032211473e4b13b4ff7787017be69f01aaafcf11cc9fa7bc672345cdf", func := "loop.example/copiedtexts/laws.FnShelfFind", spec := "fnShelfFind", apart := false }
def FnShelfFindSaid : Prop := fnShelfFindRow.holds Try.pinned (OpenSpec.ofChange fnShelfFindSpec)

/-- ITS FALSE NEIGHBOUR: 'it returns false'. Refute it at one input. -/
def fnShelfFindWrong : ChangeSpec := { name := "fnShelfFind", fn := fun _ => fun
  | [d] => { results := [.lit (.bool false)], args := [d] }
  | _ => none }
def FnShelfFindWrongFalsely : Prop := fnShelfFindRow.holds Try.pinned (OpenSpec.ofChange fnShelfFindWrong)

/-- 'laws.FnShelfDocs': WHATEVER THE INPUT: true; the input reads as it did. -/
def fnShelfDocsSpec : ChangeSpec := { name := "fnShelfDocs", fn := fun _ => fun
  | [d] => { results := [.lit (.bool true)], args := [d] }
  | _ => none }
def fnShelfDocsRow : OpenClaim := { program := "ytclblnkeakkdeaa", sum := "f40e2f4032211473e4b13b4ff7787017be69f01aaafcf11cc9fa7bc672345cdf", func := "loop.example/copiedtexts/laws.FnShelfDocs", spec := "fnShelfDocs", recurses := true, apart := false }
def FnShelfDocsSaid : Prop := fnShelfDocsRow.holds Try.pinned (OpenSpec.ofChange fnShelfDocsSpec)

/-- ITS FALSE NEIGHBOUR: 'it returns false'. Refute it at one input. -/
def fnShelfDocsWrong : ChangeSpec := { name := "fnShelfDocs", fn := fun _ => fun
  | [d] => { results := [.lit (.bool false)], args := [d] }
  | _ => none }
def FnShelfDocsWrongFalsely : Prop := fnShelfDocsRow.holds Try.pinned (OpenSpec.ofChange fnShelfDocsWrong)

/-- 'laws.FnShelfAsk': WHATEVER THE INPUT: true; the input reads as it did. -/
def fnShelfAskSpec : ChangeSpec := { name := "fnShelfAsk", fn := fun _ => fun
  | [d] => { results := [.lit (.bool true)], args := [d] }
  | _ => none }
def fnShelfAskRow : OpenClaim := { program := "ytclblnkeakkdeaa", sum := "f40e2f4032211473e4b13b4ff7787017be69f01aaafcf11cc9fa7bc672345cdf", func := "loop.example/copiedtexts/laws.FnShelfAsk", spec := "fnShelfAsk", recurses := true, apart := false }
def FnShelfAskSaid : Prop := fnShelfAskRow.holds Try.pinned (OpenSpec.ofChange fnShelfAskSpec)

/-- ITS FALSE NEIGHBOUR: 'it returns false'. Refute it at one input. -/
def fnShelfAskWrong : ChangeSpec := { name := "fnShelfAsk", fn := fun _ => fun
  | [d] => { results := [.lit (.bool false)], args := [d] }
  | _ => none }
def FnShelfAskWrongFalsely : Prop := fnShelfAskRow.holds Try.pinned (OpenSpec.ofChange fnShelfAskWrong)

/-- 'laws.FnAnyShelfAsk': WHATEVER THE INPUT: true; the input reads as it did. -/
def fnAnyShelfAskSpec : ChangeSpec := { name := "fnAnyShelfAsk", fn := fun _ => fun
  | [d1, d2] => { results := [.lit (.bool true)], args := [d1, d2] }
  | _ => none }
def fnAnyShelfAskRow : OpenClaim := { program := "ytclblnkeakkdeaa", sum := "f40e2f4032211473e4b13b4ff7787017be69f01aaafcf11cc9fa7bc672345cdf", func := "loop.example/copiedtexts/laws.FnAnyShelfAsk", spec := "fnAnyShelfAsk", recurses := true, apart := false }
def FnAnyShelfAskSaid : Prop := fnAnyShelfAskRow.holds Try.pinned (OpenSpec.ofChange fnAnyShelfAskSpec)

/-- ITS FALSE NEIGHBOUR: 'it returns false'. Refute it at one input. -/
def fnAnyShelfAskWrong : ChangeSpec := { name := "fnAnyShelfAsk", fn := fun _ => fun
  | [d1, d2] => { results := [.lit (.bool false)], args := [d1, d2] }
  | _ => none }
def FnAnyShelfAskWrongFalsely : Prop := fnAnyShelfAskRow.holds Try.pinned (OpenSpec.ofChange fnAnyShelfAskWrong)

/-- 'laws.FnFoundBy': WHATEVER THE INPUT: true; the input reads as it did. -/
def fnFoundBySpec : ChangeSpec := { name := "fnFoundBy", fn := fun _ => fun
  | [d] => { results := [.lit (.bool true)], args := [d] }
  | _ => none }
def fnFoundByRow : OpenClaim := { program := "ytclblnkeakkdeaa", sum := "f40e2f4032211473e4b13b4ff7787017be69f01aaafcf11cc9fa7bc672345cdf", func := "loop.example/copiedtexts/laws.FnFoundBy", spec := "fnFoundBy", recurses := true, apart := false }
def FnFoundBySaid : Prop := fnFoundByRow.holds Try.pinned (OpenSpec.ofChange fnFoundBySpec)

/-- ITS FALSE NEIGHBOUR: 'it returns false'. Refute it at one input. -/
def fnFoundByWrong : ChangeSpec := { name := "fnFoundBy", fn := fun _ => fun
  | [d] => { results := [.lit (.bool false)], args := [d] }
  | _ => none }
def FnFoundByWrongFalsely : Prop := fnFoundByRow.holds Try.pinned (OpenSpec.ofChange fnFoundByWrong)

/-- 'laws.FnFalseTwins': WHATEVER THE INPUT: true; the input reads as it did. -/
def fnFalseTwinsSpec : ChangeSpec := { name := "fnFalseTwins", fn := fun _ => fun
  | [d] => { results := [.lit (.bool true)], args := [d] }
  | _ => none }
def fnFalseTwinsRow : OpenClaim := { program := "ytclblnkeakkdeaa", sum := "f40e2f4032211473e4b13b4ff7787017be69f01aaafcf11cc9fa7bc672345cdf", func := "loop.example/copiedtexts/laws.FnFalseTwins", spec := "fnFalseTwins", apart := false }
def FnFalseTwinsSaid : Prop := fnFalseTwinsRow.holds Try.pinned (OpenSpec.ofChange fnFalseTwinsSpec)

/-- ITS FALSE NEIGHBOUR: 'it returns false'. Refute it at one input. -/
def fnFalseTwinsWrong : ChangeSpec := { name := "fnFalseTwins", fn := fun _ => fun
  | [d] => { results := [.lit (.bool false)], args := [d] }
  | _ => none }
def FnFalseTwinsWrongFalsely : Prop := fnFalseTwinsRow.holds Try.pinned (OpenSpec.ofChange fnFalseTwinsWrong)

/-- 'laws.FnShelfOfAll': WHATEVER THE INPUT: true; the input reads as it did. -/
def fnShelfOfAllSpec : ChangeSpec := { name := "fnShelfOfAll", fn := fun _ => fun
  | [d] => { results := [.lit (.bool true)], args := [d] }
  | _ => none }
def fnShelfOfAllRow : OpenClaim := { program := "ytclblnkeakkdeaa", sum := "f40e2f4032211473e4b13b4ff7787017be69f01aaafcf11cc9fa7bc672345cdf", func := "loop.example/copiedtexts/laws.FnShelfOfAll", spec := "fnShelfOfAll", recurses := true, apart := false }
def FnShelfOfAllSaid : Prop := fnShelfOfAllRow.holds Try.pinned (OpenSpec.ofChange fnShelfOfAllSpec)

/-- ITS FALSE NEIGHBOUR: 'it returns false'. Refute it at one input. -/
def fnShelfOfAllWrong : ChangeSpec := { name := "fnShelfOfAll", fn := fun _ => fun
  | [d] => { results := [.lit (.bool false)], args := [d] }
  | _ => none }
def FnShelfOfAllWrongFalsely : Prop := fnShelfOfAllRow.holds Try.pinned (OpenSpec.ofChange fnShelfOfAllWrong)

/-- 'laws.FnAskShelf': WHATEVER THE INPUT: true; the input reads as it did. -/
def fnAskShelfSpec : ChangeSpec := { name := "fnAskShelf", fn := fun _ => fun
  | [d] => { results := [.lit (.bool true)], args := [d] }
  | _ => none }
def fnAskShelfRow : OpenClaim := { program := "ytclblnkeakkdeaa", sum := "f40e2f4032211473e4b13b4ff7787017be69f01aaafcf11cc9fa7bc672345cdf", func := "loop.example/copiedtexts/laws.FnAskShelf", spec := "fnAskShelf", recurses := true, apart := false }
def FnAskShelfSaid : Prop := fnAskShelfRow.holds Try.pinned (OpenSpec.ofChange fnAskShelfSpec)

/-- ITS FALSE NEIGHBOUR: 'it returns false'. Refute it at one input. -/
def fnAskShelfWrong : ChangeSpec := { name := "fnAskShelf", fn := fun _ => fun
  | [d] => { results := [.lit (.bool false)], args := [d] }
  | _ => none }
def FnAskShelfWrongFalsely : Prop := fnAskShelfRow.holds Try.pinned (OpenSpec.ofChange fnAskShelfWrong)

/-- 'laws.FnAskOther': WHATEVER THE INPUT: true; the input reads as it did. -/
def fnAskOtherSpec : ChangeSpec := { name := "fnAskOther", fn := fun _ => fun
  | [d] => { results := [.lit (.bool true)], args := [d] }
  | _ => none }
def fnAskOtherRow : OpenClaim := { program := "ytclblnkeakkdeaa", sum := "f40e2f4032211473e4b13b4ff7787017be69f01aaafcf11cc9fa7bc672345cdf", func := "loop.example/copiedtexts/laws.FnAskOther", spec := "fnAskOther", recurses := true, apart := false }
def FnAskOtherSaid : Prop := fnAskOtherRow.holds Try.pinned (OpenSpec.ofChange fnAskOtherSpec)

/-- ITS FALSE NEIGHBOUR: 'it returns false'. Refute it at one input. -/
def fnAskOtherWrong : ChangeSpec := { name := "fnAskOther", fn := fun _ => fun
  | [d] => { results := [.lit (.bool false)], args := [d] }
  | _ => none }
def FnAskOtherWrongFalsely : Prop := fnAskOtherRow.holds Try.pinned (OpenSpec.ofChange fnAskOtherWrong)

/-- 'laws.FnAskAll': WHATEVER THE INPUT: true; the input reads as it did. -/
def fnAskAllSpec : ChangeSpec := { name := "fnAskAll", fn := fun _ => fun
  | [d] => { results := [.lit (.bool true)], args := [d] }
  | _ => none }
def fnAskAllRow : OpenClaim := { program := "ytclblnkeakkdeaa", sum := "f40e2f4032211473e4b13b4ff7787017be69f01aaafcf11cc9fa7bc672345cdf", func := "loop.example/copiedtexts/laws.FnAskAll", spec := "fnAskAll", apart := false }
def FnAskAllSaid : Prop := fnAskAllRow.holds Try.pinned (OpenSpec.ofChange fnAskAllSpec)

/-- ITS FALSE NEIGHBOUR: 'it returns false'. Refute it at one input. -/
def fnAskAllWrong : ChangeSpec := { name := "fnAskAll", fn := fun _ => fun
  | [d] => { results := [.lit (.bool false)], args := [d] }
  | _ => none }
def FnAskAllWrongFalsely : Prop := fnAskAllRow.holds Try.pinned (OpenSpec.ofChange fnAskAllWrong)

/-- 'laws.FnAnyFoundBy': WHATEVER THE INPUT: true; the input reads as it did. -/
def fnAnyFoundBySpec : ChangeSpec := { name := "fnAnyFoundBy", fn := fun _ => fun
  | [d1, d2, d3, d4, d5] => { results := [.lit (.bool true)], args := [d1, d2, d3, d4, d5] }
  | _ => none }
def fnAnyFoundByRow : OpenClaim := { program := "ytclblnkeakkdeaa", sum := "f40e2f4032211473e4b13b4ff7787017be69f01aaafcf11cc9fa7bc672345cdf", func := "loop.example/copiedtexts/laws.FnAnyFoundBy", spec := "fnAnyFoundBy", recurses := true, apart := false }
def FnAnyFoundBySaid : Prop := fnAnyFoundByRow.holds Try.pinned (OpenSpec.ofChange fnAnyFoundBySpec)

/-- ITS FALSE NEIGHBOUR: 'it returns false'. Refute it at one input. -/
def fnAnyFoundByWrong : ChangeSpec := { name := "fnAnyFoundBy", fn := fun _ => fun
  | [d1, d2, d3, d4, d5] => { results := [.lit (.bool false)], args := [d1, d2, d3, d4, d5] }
  | _ => none }
def FnAnyFoundByWrongFalsely : Prop := fnAnyFoundByRow.holds Try.pinned (OpenSpec.ofChange fnAnyFoundByWrong)

/-- 'laws.FnAnyAskShelf': WHATEVER THE INPUT: true; the input reads as it did. -/
def fnAnyAskShelfSpec : ChangeSpec := { name := "fnAnyAskShelf", fn := fun _ => fun
  | [d1, d2, d3, d4, d5] => { results := [.lit (.bool true)], args := [d1, d2, d3, d4, d5] }
  | _ => none }
def fnAnyAskShelfRow : OpenClaim := { program := "ytclblnkeakkdeaa", sum := "f40e2f4032211473e4b13b4ff7787017be69f01aaafcf11cc9fa7bc672345cdf", func := "loop.example/copiedtexts/laws.FnAnyAskShelf", spec := "fnAnyAskShelf", recurses := true, apart := false }
def FnAnyAskShelfSaid : Prop := fnAnyAskShelfRow.holds Try.pinned (OpenSpec.ofChange fnAnyAskShelfSpec)

/-- ITS FALSE NEIGHBOUR: 'it returns false'. Refute it at one input. -/
def fnAnyAskShelfWrong : ChangeSpec := { name := "fnAnyAskShelf", fn := fun _ => fun
  | [d1, d2, d3, d4, d5] => { results := [.lit (.bool false)], args := [d1, d2, d3, d4, d5] }
  | _ => none }
def FnAnyAskShelfWrongFalsely : Prop := fnAnyAskShelfRow.holds Try.pinned (OpenSpec.ofChange fnAnyAskShelfWrong)

/- THE SECOND FORM. 'bulk': how many values and letters a reading holds, each counted each time it is reached (what is shared counts as often as it is met; a slice's spare places count too). A statement '..UptoSaid' is the law's where the arguments, and the package variables that the reading takes, are together of bulk at most 1048576: NARROWER than '..Said'. Prove '..Said' where nothing that the law and all that it calls make is longer than what came in: it says more and counts as full. Else prove '..UptoSaid'. A law counts once. -/
mutual
def uptoBulk {H : Type} : DataW H → Nat
  | .lit (.string bytes) => bytes.length + 1
  | .lit _ => 1
  | .nil => 1
  | .ptr d => uptoBulk d + 1
  | .slice elems spare => uptoBulkAll elems + uptoBulkAll spare + 1
  | .agg parts => uptoBulkAll parts + 1
  | .iface _ d => uptoBulk d + 1
  | .map entries => uptoBulkEntries entries + 1
  | .held _ => 1
def uptoBulkAll {H : Type} : List (DataW H) → Nat
  | [] => 0
  | d :: r => uptoBulk d + uptoBulkAll r
def uptoBulkEntries {H : Type} : List (Lit × DataW H) → Nat
  | [] => 0
  | x :: r => uptoBulkEntry x + uptoBulkEntries r
def uptoBulkEntry {H : Type} : Lit × DataW H → Nat
  | (.string bytes, d) => bytes.length + uptoBulk d + 1
  | (_, d) => uptoBulk d + 1
 end
def uptoSmall : (H : Type) → List (DataW H) → Bool := fun _ ds => decide (uptoBulkAll ds ≤ 1048576)
def OpenSpec.upto (s : _root_.Go.ChangeSpec) : _root_.Go.OpenSpec := { _root_.Go.OpenSpec.ofChange s with cond := some uptoSmall }

/-- 'laws.FnShelfLose', WHERE WHAT IT READS IS OF BULK AT MOST 1048576: true; the input reads as it did. -/
def fnShelfLoseUptoRow : OpenClaim := { program := "ytclblnkeakkdeaa", sum := "f40e2f4032211473e4b13b4ff7787017be69f01aaafcf11cc9fa7bc672345cdf", func := "loop.example/copiedtexts/laws.FnShelfLose", spec := "fnShelfLose", recurses := true, apart := false, narrowed := true }
def FnShelfLoseUptoSaid : Prop := fnShelfLoseUptoRow.holds Try.pinned (OpenSpec.upto fnShelfLoseSpec)

/-- 'laws.FnShelfFind', WHERE WHAT IT READS IS OF BULK AT MOST 1048576: true; the input reads as it did. -/
def fnShelfFindUptoRow : OpenClaim := { program := "ytclblnkeakkdeaa", sum := "f40e2f4032211473e4b13b4ff7787017be69f01aaafcf11cc9fa7bc672345cdf", func := "loop.example/copiedtexts/laws.FnShelfFind", spec := "fnShelfFind", apart := false, narrowed := true }
def FnShelfFindUptoSaid : Prop := fnShelfFindUptoRow.holds Try.pinned (OpenSpec.upto fnShelfFindSpec)

/-- 'laws.FnShelfDocs', WHERE WHAT IT READS IS OF BULK AT MOST 1048576: true; the input reads as it did. -/
def fnShelfDocsUptoRow : OpenClaim := { program := "ytclblnkeakkdeaa", sum := "f40e2f4032211473e4b13b4ff7787017be69f01aaafcf11cc9fa7bc672345cdf", func := "loop.example/copiedtexts/laws.FnShelfDocs", spec := "fnShelfDocs", recurses := true, apart := false, narrowed := true }
def FnShelfDocsUptoSaid : Prop := fnShelfDocsUptoRow.holds Try.pinned (OpenSpec.upto fnShelfDocsSpec)

/-- 'laws.FnShelfAsk', WHERE WHAT IT READS IS OF BULK AT MOST 1048576: true; the input reads as it did. -/
def fnShelfAskUptoRow : OpenClaim := { program := "ytclblnkeakkdeaa", sum := "f40e2f4032211473e4b13b4ff7787017be69f01aaafcf11cc9fa7bc672345cdf", func := "loop.example/copiedtexts/laws.FnShelfAsk", spec := "fnShelfAsk", recurses := true, apart := false, narrowed := true }
def FnShelfAskUptoSaid : Prop := fnShelfAskUptoRow.holds Try.pinned (OpenSpec.upto fnShelfAskSpec)

/-- 'laws.FnAnyShelfAsk', WHERE WHAT IT READS IS OF BULK AT MOST 1048576: true; the input reads as it did. -/
def fnAnyShelfAskUptoRow : OpenClaim := { program := "ytclblnkeakkdeaa", sum := "f40e2f4032211473e4b13b4ff7787017be69f01aaafcf11cc9fa7bc672345cdf", func := "loop.example/copiedtexts/laws.FnAnyShelfAsk", spec := "fnAnyShelfAsk", recurses := true, apart := false, narrowed := true }
def FnAnyShelfAskUptoSaid : Prop := fnAnyShelfAskUptoRow.holds Try.pinned (OpenSpec.upto fnAnyShelfAskSpec)

/-- 'laws.FnFoundBy', WHERE WHAT IT READS IS OF BULK AT MOST 1048576: true; the input reads as it did. -/
def fnFoundByUptoRow : OpenClaim := { program := "ytclblnkeakkdeaa", sum := "f40e2f4032211473e4b13b4ff7787017be69f01aaafcf11cc9fa7bc672345cdf", func := "loop.example/copiedtexts/laws.FnFoundBy", spec := "fnFoundBy", recurses := true, apart := false, narrowed := true }
def FnFoundByUptoSaid : Prop := fnFoundByUptoRow.holds Try.pinned (OpenSpec.upto fnFoundBySpec)

/-- 'laws.FnFalseTwins', WHERE WHAT IT READS IS OF BULK AT MOST 1048576: true; the input reads as it did. -/
def fnFalseTwinsUptoRow : OpenClaim := { program := "ytclblnkeakkdeaa", sum := "f40e2f4032211473e4b13b4ff7787017be69f01aaafcf11cc9fa7bc672345cdf", func := "loop.example/copiedtexts/laws.FnFalseTwins", spec := "fnFalseTwins", apart := false, narrowed := true }
def FnFalseTwinsUptoSaid : Prop := fnFalseTwinsUptoRow.holds Try.pinned (OpenSpec.upto fnFalseTwinsSpec)

/-- 'laws.FnShelfOfAll', WHERE WHAT IT READS IS OF BULK AT MOST 1048576: true; the input reads as it did. -/
def fnShelfOfAllUptoRow : OpenClaim := { program := "ytclblnkeakkdeaa", sum := "f40e2f4032211473e4b13b4ff7787017be69f01aaafcf11cc9fa7bc672345cdf", func := "loop.example/copiedtexts/laws.FnShelfOfAll", spec := "fnShelfOfAll", recurses := true, apart := false, narrowed := true }
def FnShelfOfAllUptoSaid : Prop := fnShelfOfAllUptoRow.holds Try.pinned (OpenSpec.upto fnShelfOfAllSpec)

/-- 'laws.FnAskShelf', WHERE WHAT IT READS IS OF BULK AT MOST 1048576: true; the input reads as it did. -/
def fnAskShelfUptoRow : OpenClaim := { program := "ytclblnkeakkdeaa", sum := "f40e2f4032211473e4b13b4ff7787017be69f01aaafcf11cc9fa7bc672345cdf", func := "loop.example/copiedtexts/laws.FnAskShelf", spec := "fnAskShelf", recurses := true, apart := false, narrowed := true }
def FnAskShelfUptoSaid : Prop := fnAskShelfUptoRow.holds Try.pinned (OpenSpec.upto fnAskShelfSpec)

/-- 'laws.FnAskOther', WHERE WHAT IT READS IS OF BULK AT MOST 1048576: true; the input reads as it did. -/
def fnAskOtherUptoRow : OpenClaim := { program := "ytclblnkeakkdeaa", sum := "f40e2f4032211473e4b13b4ff7787017be69f01aaafcf11cc9fa7bc672345cdf", func := "loop.example/copiedtexts/laws.FnAskOther", spec := "fnAskOther", recurses := true, apart := false, narrowed := true }
def FnAskOtherUptoSaid : Prop := fnAskOtherUptoRow.holds Try.pinned (OpenSpec.upto fnAskOtherSpec)

/-- 'laws.FnAskAll', WHERE WHAT IT READS IS OF BULK AT MOST 1048576: true; the input reads as it did. -/
def fnAskAllUptoRow : OpenClaim := { program := "ytclblnkeakkdeaa", sum := "f40e2f4032211473e4b13b4ff7787017be69f01aaafcf11cc9fa7bc672345cdf", func := "loop.example/copiedtexts/laws.FnAskAll", spec := "fnAskAll", apart := false, narrowed := true }
def FnAskAllUptoSaid : Prop := fnAskAllUptoRow.holds Try.pinned (OpenSpec.upto fnAskAllSpec)

/-- 'laws.FnAnyFoundBy', WHERE WHAT IT READS IS OF BULK AT MOST 1048576: true; the input reads as it did. -/
def fnAnyFoundByUptoRow : OpenClaim := { program := "ytclblnkeakkdeaa", sum := "f40e2f4032211473e4b13b4ff7787017be69f01aaafcf11cc9fa7bc672345cdf", func := "loop.example/copiedtexts/laws.FnAnyFoundBy", spec := "fnAnyFoundBy", recurses := true, apart := false, narrowed := true }
def FnAnyFoundByUptoSaid : Prop := fnAnyFoundByUptoRow.holds Try.pinned (OpenSpec.upto fnAnyFoundBySpec)

/-- 'laws.FnAnyAskShelf', WHERE WHAT IT READS IS OF BULK AT MOST 1048576: true; the input reads as it did. -/
def fnAnyAskShelfUptoRow : OpenClaim := { program := "ytclblnkeakkdeaa", sum := "f40e2f4032211473e4b13b4ff7787017be69f01aaafcf11cc9fa7bc672345cdf", func := "loop.example/copiedtexts/laws.FnAnyAskShelf", spec := "fnAnyAskShelf", recurses := true, apart := false, narrowed := true }
def FnAnyAskShelfUptoSaid : Prop := fnAnyAskShelfUptoRow.holds Try.pinned (OpenSpec.upto fnAnyAskShelfSpec)

end Rows
end Go.Proofs.Ytclblnkeakkdeaa
