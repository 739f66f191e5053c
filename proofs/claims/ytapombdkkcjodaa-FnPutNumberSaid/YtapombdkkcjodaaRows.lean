/-
  No cell of these rows narrows 'for every input' (looked for: loops, veiled, ifaces, maps, wideKeys, modest, calm, conditions, laid).
  DERIVED. THE GIVEN ROWS OF THIS SEAT. 7 by the template 'for every input the law returns true; each argument reads behind the call as it read before'; 0 by the template 'total and deterministic' (their statements: YtapombdkkcjodaaTotals.lean).
  GIVEN WITH THE SEED: the statements are not yours to turn. If you find one false, say at which input.
  Laid BY PROGRAM, IN A SANDBOX (cutbox-rows.mjs): the forced cells as the released guide's own fill.sh prints them over the translation dcef1a035acffc97… (all of the seat's roots in one cut). By AI agents, Wed Nov 11 2026. No macro, syntax, notation, axiom, sorry.
-/
import Derived.Test.YtapombdkkcjodaaChecked
import GoSem.Claim
import GoSem.ClaimJoined
import GoSem.ClaimMapViews
import Derived.JoinedTies
import Derived.KernelRfl
namespace Go.Proofs.Ytapombdkkcjodaa
/- THE CELL 'sum', in the pinned program and in every row, IS THE sha256 OF THE DUMP (.gsa) THAT YtapombdkkcjodaaProg.lean LOADS. Nothing in Lean hashes anything: it is a label: what it is worth is what the hold of that sum in a sandbox is worth. -/
noncomputable def Try.pinned : Pinned := { name := "ytapombdkkcjodaa", sum := "dcef1a035acffc97c6a22da6414ec938340459a70721a708bdb9decc8171bb11", checked := Try.checked }
namespace Rows
def none {H : Type} : Left H := { results := [], args := [] }

/-- 'laws.FnPutNumber': WHATEVER THE INPUT: true; the input reads as it did. -/
def fnPutNumberSpec : ChangeSpec := { name := "fnPutNumber", fn := fun _ => fun
  | [d] => { results := [.lit (.bool true)], args := [d] }
  | _ => none }
def fnPutNumberRow : OpenClaim := { program := "ytapombdkkcjodaa", sum := "dcef1a035acffc97c6a22da6414ec938340459a70721a708bdb9decc8171bb11", func := "loop.example/copiedtexts/laws.FnPutNumber", spec := "fnPutNumber", apart := false }
def FnPutNumberSaid : Prop := fnPutNumberRow.holds Try.pinned (OpenSpec.ofChange fnPutNumberSpec)

/-- ITS FALSE NEIGHBOUR: 'it returns false'. Refute it at one input. -/
def fnPutNumberWrong : ChangeSpec := { name := "fnPutNumber", fn := fun _ => fun
  | [d] => { results := [.lit (.bool false)], args := [d] }
  | _ => none }
def FnPutNumberWrongFalsely : Prop := fnPutNumberRow.holds Try.pinned (OpenSpec.ofChange fnPutNumberWrong)

/-- 'laws.FnTakeNumber': WHATEVER THE INPUT: true; the input reads as it did. -/
def fnTakeNumberSpec : ChangeSpec := { name := "fnTakeNumber", fn := fun _ => fun
  | [d] => { results := [.lit (.bool true)], args := [d] }
  | _ => none }
def fnTakeNumberRow : OpenClaim := { program := "ytapombdkkcjodaa", sum := "dcef1a035acffc97c6a22da6414ec938340459a70721a708bdb9decc8171bb11", func := "loop.example/copiedtexts/laws.FnTakeNumber", spec := "fnTakeNumber", apart := false }
def FnTakeNumberSaid : Prop := fnTakeNumberRow.holds Try.pinned (OpenSpec.ofChange fnTakeNumberSpec)

/-- ITS FALSE NEIGHBOUR: 'it returns false'. Refute it at one input. -/
def fnTakeNumberWrong : ChangeSpec := { name := "fnTakeNumber", fn := fun _ => fun
  | [d] => { results := [.lit (.bool false)], args := [d] }
  | _ => none }
def FnTakeNumberWrongFalsely : Prop := fnTakeNumberRow.holds Try.pinned (OpenSpec.ofChange fnTakeNumberWrong)

/-- 'laws.FnShelfText': WHATEVER THE INPUT: true; the input reads as it did. -/
def fnShelfTextSpec : ChangeSpec := { name := "fnShelfText", fn := fun _ => fun
  | [d] => { results := [.lit (.bool true)], args := [d] }
  | _ => none }
def fnShelfTextRow : OpenClaim := { program := "ytapombdkkcjodaa", sum := "dcef1a035acffc97c6a22da6414ec938340459a70721a708bdb9decc8171bb11", func := "loop.example/copiedtexts/laws.FnShelfText", spec := "fnShelfText", apart := false }
def FnShelfTextSaid : Prop := fnShelfTextRow.holds Try.pinned (OpenSpec.ofChange fnShelfTextSpec)

/-- ITS FALSE NEIGHBOUR: 'it returns false'. Refute it at one input. -/
def fnShelfTextWrong : ChangeSpec := { name := "fnShelfText", fn := fun _ => fun
  | [d] => { results := [.lit (.bool false)], args := [d] }
  | _ => none }
def FnShelfTextWrongFalsely : Prop := fnShelfTextRow.holds Try.pinned (OpenSpec.ofChange fnShelfTextWrong)

/-- 'laws.FnReadShelf': WHATEVER THE INPUT: true; the input reads as it did. -/
def fnReadShelfSpec : ChangeSpec := { name := "fnReadShelf", fn := fun _ => fun
  | [d] => { results := [.lit (.bool true)], args := [d] }
  | _ => none }
def fnReadShelfRow : OpenClaim := { program := "ytapombdkkcjodaa", sum := "dcef1a035acffc97c6a22da6414ec938340459a70721a708bdb9decc8171bb11", func := "loop.example/copiedtexts/laws.FnReadShelf", spec := "fnReadShelf", apart := false }
def FnReadShelfSaid : Prop := fnReadShelfRow.holds Try.pinned (OpenSpec.ofChange fnReadShelfSpec)

/-- ITS FALSE NEIGHBOUR: 'it returns false'. Refute it at one input. -/
def fnReadShelfWrong : ChangeSpec := { name := "fnReadShelf", fn := fun _ => fun
  | [d] => { results := [.lit (.bool false)], args := [d] }
  | _ => none }
def FnReadShelfWrongFalsely : Prop := fnReadShelfRow.holds Try.pinned (OpenSpec.ofChange fnReadShelfWrong)

/-- 'laws.FnShelfShort': WHATEVER THE INPUT: true; the input reads as it did. -/
def fnShelfShortSpec : ChangeSpec := { name := "fnShelfShort", fn := fun _ => fun
  | [d] => { results := [.lit (.bool true)], args := [d] }
  | _ => none }
def fnShelfShortRow : OpenClaim := { program := "ytapombdkkcjodaa", sum := "dcef1a035acffc97c6a22da6414ec938340459a70721a708bdb9decc8171bb11", func := "loop.example/copiedtexts/laws.FnShelfShort", spec := "fnShelfShort", apart := false }
def FnShelfShortSaid : Prop := fnShelfShortRow.holds Try.pinned (OpenSpec.ofChange fnShelfShortSpec)

/-- ITS FALSE NEIGHBOUR: 'it returns false'. Refute it at one input. -/
def fnShelfShortWrong : ChangeSpec := { name := "fnShelfShort", fn := fun _ => fun
  | [d] => { results := [.lit (.bool false)], args := [d] }
  | _ => none }
def FnShelfShortWrongFalsely : Prop := fnShelfShortRow.holds Try.pinned (OpenSpec.ofChange fnShelfShortWrong)

/-- 'laws.FnAnyTakeNumber': WHATEVER THE INPUT: true; the input reads as it did. -/
def fnAnyTakeNumberSpec : ChangeSpec := { name := "fnAnyTakeNumber", fn := fun _ => fun
  | [d1, d2] => { results := [.lit (.bool true)], args := [d1, d2] }
  | _ => none }
def fnAnyTakeNumberRow : OpenClaim := { program := "ytapombdkkcjodaa", sum := "dcef1a035acffc97c6a22da6414ec938340459a70721a708bdb9decc8171bb11", func := "loop.example/copiedtexts/laws.FnAnyTakeNumber", spec := "fnAnyTakeNumber", apart := false }
def FnAnyTakeNumberSaid : Prop := fnAnyTakeNumberRow.holds Try.pinned (OpenSpec.ofChange fnAnyTakeNumberSpec)

/-- ITS FALSE NEIGHBOUR: 'it returns false'. Refute it at one input. -/
def fnAnyTakeNumberWrong : ChangeSpec := { name := "fnAnyTakeNumber", fn := fun _ => fun
  | [d1, d2] => { results := [.lit (.bool false)], args := [d1, d2] }
  | _ => none }
def FnAnyTakeNumberWrongFalsely : Prop := fnAnyTakeNumberRow.holds Try.pinned (OpenSpec.ofChange fnAnyTakeNumberWrong)

/-- 'laws.FnAnyReadShelf': WHATEVER THE INPUT: true; the input reads as it did. -/
def fnAnyReadShelfSpec : ChangeSpec := { name := "fnAnyReadShelf", fn := fun _ => fun
  | [d] => { results := [.lit (.bool true)], args := [d] }
  | _ => none }
def fnAnyReadShelfRow : OpenClaim := { program := "ytapombdkkcjodaa", sum := "dcef1a035acffc97c6a22da6414ec938340459a70721a708bdb9decc8171bb11", func := "loop.example/copiedtexts/laws.FnAnyReadShelf", spec := "fnAnyReadShelf", apart := false }
def FnAnyReadShelfSaid : Prop := fnAnyReadShelfRow.holds Try.pinned (OpenSpec.ofChange fnAnyReadShelfSpec)

/-- ITS FALSE NEIGHBOUR: 'it returns false'. Refute it at one input. -/
def fnAnyReadShelfWrong : ChangeSpec := { name := "fnAnyReadShelf", fn := fun _ => fun
  | [d] => { results := [.lit (.bool false)], args := [d] }
  | _ => none }
def FnAnyReadShelfWrongFalsely : Prop := fnAnyReadShelfRow.holds Try.pinned (OpenSpec.ofChange fnAnyReadShelfWrong)

/- THE SECOND FORM. 'bulk': how many values and letters a reading holds, each counted each time it is reached (what is shared counts as often as it is met; a slice's spare places count too). A statement '..UptoSaid' is the law's where the arguments, and the package variables that the reading takes, are together of bulk at most 1048576: NARROWER than '..Said'. Prove '..Said' where nothing that the law and all that it calls make is longer than what came in: it says more and counts as full. Else prove '..UptoSaid'. A law counts once. -/
mutual
def uptoBulk {H : Type} : DataW H → Nat
  | .lit (.string bytes) => bytes.length + 1
  | .lit _ => 1
  | .nil => 1
  | .ptr d => uptoBulk d + 1
  | .slice elems spare => uptoBulkAll elems + uptoBulkAll spare + 1
  | .agg parts => uptoBulkAll parts + 1
  | .iface _ d => uptoBulk d + 1
  | .map entries => uptoBulkEntries entries + 1
  | .held _ => 1
def uptoBulkAll {H : Type} : List (DataW H) → Nat
  | [] => 0
  | d :: r => uptoBulk d + uptoBulkAll r
def uptoBulkEntries {H : Type} : List (Lit × DataW H) → Nat
  | [] => 0
  | x :: r => uptoBulkEntry x + uptoBulkEntries r
def uptoBulkEntry {H : Type} : Lit × DataW H → Nat
  | (.string bytes, d) => bytes.length + uptoBulk d + 1
  | (_, d) => uptoBulk d + 1
 end
def uptoSmall : (H : Type) → List (DataW H) → Bool := fun _ ds => decide (uptoBulkAll ds ≤ 1048576)
def OpenSpec.upto (s : _root_.Go.ChangeSpec) : _root_.Go.OpenSpec := { _root_.Go.OpenSpec.ofChange s with cond := some uptoSmall }

/-- 'laws.FnPutNumber', WHERE WHAT IT READS IS OF BULK AT MOST 1048576: true; the input reads as it did. -/
def fnPutNumberUptoRow : OpenClaim := { program := "ytapombdkkcjodaa", sum := "dcef1a035acffc97c6a22da6414ec938340459a70721a708bdb9decc8171bb11", func := "loop.example/copiedtexts/laws.FnPutNumber", spec := "fnPutNumber", apart := false, narrowed := true }
def FnPutNumberUptoSaid : Prop := fnPutNumberUptoRow.holds Try.pinned (OpenSpec.upto fnPutNumberSpec)

/-- 'laws.FnTakeNumber', WHERE WHAT IT READS IS OF BULK AT MOST 1048576: true; the input reads as it did. -/
def fnTakeNumberUptoRow : OpenClaim := { program := "ytapombdkkcjodaa", sum := "dcef1a035acffc97c6a22da6414ec938340459a70721a708bdb9decc8171bb11", func := "loop.example/copiedtexts/laws.FnTakeNumber", spec := "fnTakeNumber", apart := false, narrowed := true }
def FnTakeNumberUptoSaid : Prop := fnTakeNumberUptoRow.holds Try.pinned (OpenSpec.upto fnTakeNumberSpec)

/-- 'laws.FnShelfText', WHERE WHAT IT READS IS OF BULK AT MOST 1048576: true; the input reads as it did. -/
def fnShelfTextUptoRow : OpenClaim := { program := "ytapombdkkcjodaa", sum := "dcef1a035acffc97c6a22da6414ec938340459a70721a708bdb9decc8171bb11", func := "loop.example/copiedtexts/laws.FnShelfText", spec := "fnShelfText", apart := false, narrowed := true }
def FnShelfTextUptoSaid : Prop := fnShelfTextUptoRow.holds Try.pinned (OpenSpec.upto fnShelfTextSpec)

/-- 'laws.FnReadShelf', WHERE WHAT IT READS IS OF BULK AT MOST 1048576: true; the input reads as it did. -/
def fnReadShelfUptoRow : OpenClaim := { program := "ytapombdkkcjodaa", sum := "dcef1a035acffc97c6a22da6414ec938340459a70721a708bdb9decc8171bb11", func := "loop.example/copiedtexts/laws.FnReadShelf", spec := "fnReadShelf", apart := false, narrowed := true }
def FnReadShelfUptoSaid : Prop := fnReadShelfUptoRow.holds Try.pinned (OpenSpec.upto fnReadShelfSpec)

/-- 'laws.FnShelfShort', WHERE WHAT IT READS IS OF BULK AT MOST 1048576: true; the input reads as it did. -/
def fnShelfShortUptoRow : OpenClaim := { program := "ytapombdkkcjodaa", sum := "dcef1a035acffc97c6a22da6414ec938340459a70721a708bdb9decc8171bb11", func := "loop.example/copiedtexts/laws.FnShelfShort", spec := "fnShelfShort", apart := false, narrowed := true }
def FnShelfShortUptoSaid : Prop := fnShelfShortUptoRow.holds Try.pinned (OpenSpec.upto fnShelfShortSpec)

/-- 'laws.FnAnyTakeNumber', WHERE WHAT IT READS IS OF BULK AT MOST 1048576: true; the input reads as it did. -/
def fnAnyTakeNumberUptoRow : OpenClaim := { program := "ytapombdkkcjodaa", sum := "dcef1a035acffc97c6a22da6414ec938340459a70721a708bdb9decc8171bb11", func := "loop.example/copiedtexts/laws.FnAnyTakeNumber", spec := "fnAnyTakeNumber", apart := false, narrowed := true }
def FnAnyTakeNumberUptoSaid : Prop := fnAnyTakeNumberUptoRow.holds Try.pinned (OpenSpec.upto fnAnyTakeNumberSpec)

/-- 'laws.FnAnyReadShelf', WHERE WHAT IT READS IS OF BULK AT MOST 1048576: true; the input reads as it did. -/
def fnAnyReadShelfUptoRow : OpenClaim := { program := "ytapombdkkcjodaa", sum := "dcef1a035acffc97c6a22da6414ec938340459a70721a708bdb9decc8171bb11", func := "loop.example/copiedtexts/laws.FnAnyReadShelf", spec := "fnAnyReadShelf", apart := false, narrowed := true }
def FnAnyReadShelfUptoSaid : Prop := fnAnyReadShelfUptoRow.holds Try.pinned (OpenSpec.upto fnAnyReadShelfSpec)

end Rows
end Go.Proofs.Ytapombdkkcjodaa
