/-
  No cell of these rows narrows 'for every input' (looked for: loops, veiled, ifaces, maps, wideKeys, modest, calm, conditions, laid).
  DERIVED. THE GIVEN ROWS OF THIS SEAT. 8 by the template 'for every input the law returns true; each argument reads behind the call as it read before'; 0 by the template 'total and deterministic' (their statements: YtbnagmjhdnnheaaTotals.lean).
  GIVEN WITH THE SEED: the statements are not yours to turn. If you find one false, say at which input.
  Laid BY PROGRAM, IN A SANDBOX (cutbox-rows.mjs): the forced cells as the released guide's own fill.sh prints them over the translation 25a08d8a6d70c7ec… (all of the seat's roots in one cut). By AI agents, Wed Nov 11 2026. No macro, syntax, notation, axiom, sorry.
-/
import Derived.Test.YtbnagmjhdnnheaaChecked
import GoSem.Claim
import GoSem.ClaimJoined
import GoSem.ClaimMapViews
import Derived.JoinedTies
import Derived.KernelRfl
namespace Go.Proofs.Ytbnagmjhdnnheaa
/- THE CELL 'sum', in the pinned program and in every row, IS THE sha256 OF THE DUMP (.gsa) THAT YtbnagmjhdnnheaaProg.lean LOADS. Nothing in Lean hashes anything: it is a label: what it is worth is what the hold of that sum in a sandbox is worth. -/
noncomputable def Try.pinned : Pinned := { name := "ytbnagmjhdnnheaa", sum := "25a08d8a6d70c7ecb9a2c40abf94297f744a271f6c3e11440741140d06d9b459", checked := Try.checked }
namespace Rows
def none {H : Type} : Left H := { results := [], args := [] }

/-- 'laws.FnExactShelfFind': WHATEVER THE INPUT: true; the input reads as it did. -/
def fnExactShelfFindSpec : ChangeSpec := { name := "fnExactShelfFind", fn := fun _ => fun
  | [d1, d2] => { results := [.lit (.bool true)], args := [d1, d2] }
  | _ => none }
def fnExactShelfFindRow : OpenClaim := { program := "ytbnagmjhdnnheaa", sum := "25a08d8a6d70c7ecb9a2c40abf94297f744a271f6c3e11440741140d06d9b459", func := "loop.example/copiedtexts/laws.FnExactShelfFind", spec := "fnExactShelfFind", apart := false }
def FnExactShelfFindSaid : Prop := fnExactShelfFindRow.holds Try.pinned (OpenSpec.ofChange fnExactShelfFindSpec)

/-- ITS FALSE NEIGHBOUR: 'it returns false'. Refute it at one input. -/
def fnExactShelfFindWrong : ChangeSpec := { name := "fnExactShelfFind", fn := fun _ => fun
  | [d1, d2] => { results := [.lit (.bool false)], args := [d1, d2] }
  | _ => none }
def FnExactShelfFindWrongFalsely : Prop := fnExactShelfFindRow.holds Try.pinned (OpenSpec.ofChange fnExactShelfFindWrong)

/-- 'laws.FnExactShelfDocs': WHATEVER THE INPUT: true; the input reads as it did. -/
def fnExactShelfDocsSpec : ChangeSpec := { name := "fnExactShelfDocs", fn := fun _ => fun
  | [d] => { results := [.lit (.bool true)], args := [d] }
  | _ => none }
def fnExactShelfDocsRow : OpenClaim := { program := "ytbnagmjhdnnheaa", sum := "25a08d8a6d70c7ecb9a2c40abf94297f744a271f6c3e11440741140d06d9b459", func := "loop.example/copiedtexts/laws.FnExactShelfDocs", spec := "fnExactShelfDocs", recurses := true, apart := false }
def FnExactShelfDocsSaid : Prop := fnExactShelfDocsRow.holds Try.pinned (OpenSpec.ofChange fnExactShelfDocsSpec)

/-- ITS FALSE NEIGHBOUR: 'it returns false'. Refute it at one input. -/
def fnExactShelfDocsWrong : ChangeSpec := { name := "fnExactShelfDocs", fn := fun _ => fun
  | [d] => { results := [.lit (.bool false)], args := [d] }
  | _ => none }
def FnExactShelfDocsWrongFalsely : Prop := fnExactShelfDocsRow.holds Try.pinned (OpenSpec.ofChange fnExactShelfDocsWrong)

/-- 'laws.FnExactShelfAsk': WHATEVER THE INPUT: true; the input reads as it did. -/
def fnExactShelfAskSpec : ChangeSpec := { name := "fnExactShelfAsk", fn := fun _ => fun
  | [d1, d2] => { results := [.lit (.bool true)], args := [d1, d2] }
  | _ => none }
def fnExactShelfAskRow : OpenClaim := { program := "ytbnagmjhdnnheaa", sum := "25a08d8a6d70c7ecb9a2c40abf94297f744a271f6c3e11440741140d06d9b459", func := "loop.example/copiedtexts/laws.FnExactShelfAsk", spec := "fnExactShelfAsk", recurses := true, apart := false }
def FnExactShelfAskSaid : Prop := fnExactShelfAskRow.holds Try.pinned (OpenSpec.ofChange fnExactShelfAskSpec)

/-- ITS FALSE NEIGHBOUR: 'it returns false'. Refute it at one input. -/
def fnExactShelfAskWrong : ChangeSpec := { name := "fnExactShelfAsk", fn := fun _ => fun
  | [d1, d2] => { results := [.lit (.bool false)], args := [d1, d2] }
  | _ => none }
def FnExactShelfAskWrongFalsely : Prop := fnExactShelfAskRow.holds Try.pinned (OpenSpec.ofChange fnExactShelfAskWrong)

/-- 'laws.FnExactFoundBy': WHATEVER THE INPUT: true; the input reads as it did. -/
def fnExactFoundBySpec : ChangeSpec := { name := "fnExactFoundBy", fn := fun _ => fun
  | [d1, d2, d3, d4, d5] => { results := [.lit (.bool true)], args := [d1, d2, d3, d4, d5] }
  | _ => none }
def fnExactFoundByRow : OpenClaim := { program := "ytbnagmjhdnnheaa", sum := "25a08d8a6d70c7ecb9a2c40abf94297f744a271f6c3e11440741140d06d9b459", func := "loop.example/copiedtexts/laws.FnExactFoundBy", spec := "fnExactFoundBy", recurses := true, apart := false }
def FnExactFoundBySaid : Prop := fnExactFoundByRow.holds Try.pinned (OpenSpec.ofChange fnExactFoundBySpec)

/-- ITS FALSE NEIGHBOUR: 'it returns false'. Refute it at one input. -/
def fnExactFoundByWrong : ChangeSpec := { name := "fnExactFoundBy", fn := fun _ => fun
  | [d1, d2, d3, d4, d5] => { results := [.lit (.bool false)], args := [d1, d2, d3, d4, d5] }
  | _ => none }
def FnExactFoundByWrongFalsely : Prop := fnExactFoundByRow.holds Try.pinned (OpenSpec.ofChange fnExactFoundByWrong)

/-- 'laws.FnExactFalseTwins': WHATEVER THE INPUT: true; the input reads as it did. -/
def fnExactFalseTwinsSpec : ChangeSpec := { name := "fnExactFalseTwins", fn := fun _ => fun
  | [d1, d2, d3, d4] => { results := [.lit (.bool true)], args := [d1, d2, d3, d4] }
  | _ => none }
def fnExactFalseTwinsRow : OpenClaim := { program := "ytbnagmjhdnnheaa", sum := "25a08d8a6d70c7ecb9a2c40abf94297f744a271f6c3e11440741140d06d9b459", func := "loop.example/copiedtexts/laws.FnExactFalseTwins", spec := "fnExactFalseTwins", apart := false }
def FnExactFalseTwinsSaid : Prop := fnExactFalseTwinsRow.holds Try.pinned (OpenSpec.ofChange fnExactFalseTwinsSpec)

/-- ITS FALSE NEIGHBOUR: 'it returns false'. Refute it at one input. -/
def fnExactFalseTwinsWrong : ChangeSpec := { name := "fnExactFalseTwins", fn := fun _ => fun
  | [d1, d2, d3, d4] => { results := [.lit (.bool false)], args := [d1, d2, d3, d4] }
  | _ => none }
def FnExactFalseTwinsWrongFalsely : Prop := fnExactFalseTwinsRow.holds Try.pinned (OpenSpec.ofChange fnExactFalseTwinsWrong)

/-- 'laws.FnExactShelfOfAll': WHATEVER THE INPUT: true; the input reads as it did. -/
def fnExactShelfOfAllSpec : ChangeSpec := { name := "fnExactShelfOfAll", fn := fun _ => fun
  | [d1, d2, d3] => { results := [.lit (.bool true)], args := [d1, d2, d3] }
  | _ => none }
def fnExactShelfOfAllRow : OpenClaim := { program := "ytbnagmjhdnnheaa", sum := "25a08d8a6d70c7ecb9a2c40abf94297f744a271f6c3e11440741140d06d9b459", func := "loop.example/copiedtexts/laws.FnExactShelfOfAll", spec := "fnExactShelfOfAll", recurses := true, apart := false }
def FnExactShelfOfAllSaid : Prop := fnExactShelfOfAllRow.holds Try.pinned (OpenSpec.ofChange fnExactShelfOfAllSpec)

/-- ITS FALSE NEIGHBOUR: 'it returns false'. Refute it at one input. -/
def fnExactShelfOfAllWrong : ChangeSpec := { name := "fnExactShelfOfAll", fn := fun _ => fun
  | [d1, d2, d3] => { results := [.lit (.bool false)], args := [d1, d2, d3] }
  | _ => none }
def FnExactShelfOfAllWrongFalsely : Prop := fnExactShelfOfAllRow.holds Try.pinned (OpenSpec.ofChange fnExactShelfOfAllWrong)

/-- 'laws.FnExactAskShelf': WHATEVER THE INPUT: true; the input reads as it did. -/
def fnExactAskShelfSpec : ChangeSpec := { name := "fnExactAskShelf", fn := fun _ => fun
  | [d1, d2, d3, d4, d5, d6] => { results := [.lit (.bool true)], args := [d1, d2, d3, d4, d5, d6] }
  | _ => none }
def fnExactAskShelfRow : OpenClaim := { program := "ytbnagmjhdnnheaa", sum := "25a08d8a6d70c7ecb9a2c40abf94297f744a271f6c3e11440741140d06d9b459", func := "loop.example/copiedtexts/laws.FnExactAskShelf", spec := "fnExactAskShelf", recurses := true, apart := false }
def FnExactAskShelfSaid : Prop := fnExactAskShelfRow.holds Try.pinned (OpenSpec.ofChange fnExactAskShelfSpec)

/-- ITS FALSE NEIGHBOUR: 'it returns false'. Refute it at one input. -/
def fnExactAskShelfWrong : ChangeSpec := { name := "fnExactAskShelf", fn := fun _ => fun
  | [d1, d2, d3, d4, d5, d6] => { results := [.lit (.bool false)], args := [d1, d2, d3, d4, d5, d6] }
  | _ => none }
def FnExactAskShelfWrongFalsely : Prop := fnExactAskShelfRow.holds Try.pinned (OpenSpec.ofChange fnExactAskShelfWrong)

/-- 'laws.FnExactAskAll': WHATEVER THE INPUT: true; the input reads as it did. -/
def fnExactAskAllSpec : ChangeSpec := { name := "fnExactAskAll", fn := fun _ => fun
  | [d1, d2, d3] => { results := [.lit (.bool true)], args := [d1, d2, d3] }
  | _ => none }
def fnExactAskAllRow : OpenClaim := { program := "ytbnagmjhdnnheaa", sum := "25a08d8a6d70c7ecb9a2c40abf94297f744a271f6c3e11440741140d06d9b459", func := "loop.example/copiedtexts/laws.FnExactAskAll", spec := "fnExactAskAll", apart := false }
def FnExactAskAllSaid : Prop := fnExactAskAllRow.holds Try.pinned (OpenSpec.ofChange fnExactAskAllSpec)

/-- ITS FALSE NEIGHBOUR: 'it returns false'. Refute it at one input. -/
def fnExactAskAllWrong : ChangeSpec := { name := "fnExactAskAll", fn := fun _ => fun
  | [d1, d2, d3] => { results := [.lit (.bool false)], args := [d1, d2, d3] }
  | _ => none }
def FnExactAskAllWrongFalsely : Prop := fnExactAskAllRow.holds Try.pinned (OpenSpec.ofChange fnExactAskAllWrong)

/- THE SECOND FORM. 'bulk': how many values and letters a reading holds, each counted each time it is reached (what is shared counts as often as it is met; a slice's spare places count too). A statement '..UptoSaid' is the law's where the arguments, and the package variables that the reading takes, are together of bulk at most 1048576: NARROWER than '..Said'. Prove '..Said' where nothing that the law and all that it calls make is longer than what came in: it says more and counts as full. Else prove '..UptoSaid'. A law counts once. -/
mutual
def uptoBulk {H : Type} : DataW H → Nat
  | .lit (.string bytes) => bytes.length + 1
  | .lit _ => 1
  | .nil => 1
  | .ptr d => uptoBulk d + 1
  | .slice elems spare => uptoBulkAll elems + uptoBulkAll spare + 1
  | .agg parts => uptoBulkAll parts + 1
  | .iface _ d => uptoBulk d + 1
  | .map entries => uptoBulkEntries entries + 1
  | .held _ => 1
def uptoBulkAll {H : Type} : List (DataW H) → Nat
  | [] => 0
  | d :: r => uptoBulk d + uptoBulkAll r
def uptoBulkEntries {H : Type} : List (Lit × DataW H) → Nat
  | [] => 0
  | x :: r => uptoBulkEntry x + uptoBulkEntries r
def uptoBulkEntry {H : Type} : Lit × DataW H → Nat
  | (.string bytes, d) => bytes.length + uptoBulk d + 1
  | (_, d) => uptoBulk d + 1
 end
def uptoSmall : (H : Type) → List (DataW H) → Bool := fun _ ds => decide (uptoBulkAll ds ≤ 1048576)
def OpenSpec.upto (s : _root_.Go.ChangeSpec) : _root_.Go.OpenSpec := { _root_.Go.OpenSpec.ofChange s with cond := some uptoSmall }

/-- 'laws.FnExactShelfFind', WHERE WHAT IT READS IS OF BULK AT MOST 1048576: true; the input reads as it did. -/
def fnExactShelfFindUptoRow : OpenClaim := { program := "ytbnagmjhdnnheaa", sum := "25a08d8a6d70c7ecb9a2c40abf94297f744a271f6c3e11440741140d06d9b459", func := "loop.example/copiedtexts/laws.FnExactShelfFind", spec := "fnExactShelfFind", apart := false, narrowed := true }
def FnExactShelfFindUptoSaid : Prop := fnExactShelfFindUptoRow.holds Try.pinned (OpenSpec.upto fnExactShelfFindSpec)

/-- 'laws.FnExactShelfDocs', WHERE WHAT IT READS IS OF BULK AT MOST 1048576: true; the input reads as it did. -/
def fnExactShelfDocsUptoRow : OpenClaim := { program := "ytbnagmjhdnnheaa", sum := "25a08d8a6d70c7ecb9a2c40abf94297f744a271f6c3e11440741140d06d9b459", func := "loop.example/copiedtexts/laws.FnExactShelfDocs", spec := "fnExactShelfDocs", recurses := true, apart := false, narrowed := true }
def FnExactShelfDocsUptoSaid : Prop := fnExactShelfDocsUptoRow.holds Try.pinned (OpenSpec.upto fnExactShelfDocsSpec)

/-- 'laws.FnExactShelfAsk', WHERE WHAT IT READS IS OF BULK AT MOST 1048576: true; the input reads as it did. -/
def fnExactShelfAskUptoRow : OpenClaim := { program := "ytbnagmjhdnnheaa", sum := "25a08d8a6d70c7ecb9a2c40abf94297f744a271f6c3e11440741140d06d9b459", func := "loop.example/copiedtexts/laws.FnExactShelfAsk", spec := "fnExactShelfAsk", recurses := true, apart := false, narrowed := true }
def FnExactShelfAskUptoSaid : Prop := fnExactShelfAskUptoRow.holds Try.pinned (OpenSpec.upto fnExactShelfAskSpec)

/-- 'laws.FnExactFoundBy', WHERE WHAT IT READS IS OF BULK AT MOST 1048576: true; the input reads as it did. -/
def fnExactFoundByUptoRow : OpenClaim := { program := "ytbnagmjhdnnheaa", sum := "25a08d8a6d70c7ecb9a2c40abf94297f744a271f6c3e11440741140d06d9b459", func := "loop.example/copiedtexts/laws.FnExactFoundBy", spec := "fnExactFoundBy", recurses := true, apart := false, narrowed := true }
def FnExactFoundByUptoSaid : Prop := fnExactFoundByUptoRow.holds Try.pinned (OpenSpec.upto fnExactFoundBySpec)

/-- 'laws.FnExactFalseTwins', WHERE WHAT IT READS IS OF BULK AT MOST 1048576: true; the input reads as it did. -/
def fnExactFalseTwinsUptoRow : OpenClaim := { program := "ytbnagmjhdnnheaa", sum := "25a08d8a6d70c7ecb9a2c40abf94297f744a271f6c3e11440741140d06d9b459", func := "loop.example/copiedtexts/laws.FnExactFalseTwins", spec := "fnExactFalseTwins", apart := false, narrowed := true }
def FnExactFalseTwinsUptoSaid : Prop := fnExactFalseTwinsUptoRow.holds Try.pinned (OpenSpec.upto fnExactFalseTwinsSpec)

/-- 'laws.FnExactShelfOfAll', WHERE WHAT IT READS IS OF BULK AT MOST 1048576: true; the input reads as it did. -/
def fnExactShelfOfAllUptoRow : OpenClaim := { program := "ytbnagmjhdnnheaa", sum := "25a08d8a6d70c7ecb9a2c40abf94297f744a271f6c3e11440741140d06d9b459", func := "loop.example/copiedtexts/laws.FnExactShelfOfAll", spec := "fnExactShelfOfAll", recurses := true, apart := false, narrowed := true }
def FnExactShelfOfAllUptoSaid : Prop := fnExactShelfOfAllUptoRow.holds Try.pinned (OpenSpec.upto fnExactShelfOfAllSpec)

/-- 'laws.FnExactAskShelf', WHERE WHAT IT READS IS OF BULK AT MOST 1048576: true; the input reads as it did. -/
def fnExactAskShelfUptoRow : OpenClaim := { program := "ytbnagmjhdnnheaa", sum := "25a08d8a6d70c7ecb9a2c40abf94297f744a271f6c3e11440741140d06d9b459", func := "loop.example/copiedtexts/laws.FnExactAskShelf", spec := "fnExactAskShelf", recurses := true, apart := false, narrowed := true }
def FnExactAskShelfUptoSaid : Prop := fnExactAskShelfUptoRow.holds Try.pinned (OpenSpec.upto fnExactAskShelfSpec)

/-- 'laws.FnExactAskAll', WHERE WHAT IT READS IS OF BULK AT MOST 1048576: true; the input reads as it did. -/
def fnExactAskAllUptoRow : OpenClaim := { program := "ytbnagmjhdnnheaa", sum := "25a08d8a6d70c7ecb9a2c40abf94297f744a271f6c3e11440741140d06d9b459", func := "loop.example/copiedtexts/laws.FnExactAskAll", spec := "fnExactAskAll", apart := false, narrowed := true }
def FnExactAskAllUptoSaid : Prop := fnExactAskAllUptoRow.holds Try.pinned (OpenSpec.upto fnExactAskAllSpec)

end Rows
end Go.Proofs.Ytbnagmjhdnnheaa
