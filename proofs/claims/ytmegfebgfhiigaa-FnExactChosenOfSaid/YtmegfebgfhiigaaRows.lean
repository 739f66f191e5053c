/-
  No cell of these rows narrows 'for every input' (looked for: loops, veiled, ifaces, maps, wideKeys, modest, calm, conditions, laid).
  DERIVED. THE GIVEN ROWS OF THIS SEAT. 5 by the template 'for every input the law returns true; each argument reads behind the call as it read before'; 0 by the template 'total and deterministic' (their statements: YtmegfebgfhiigaaTotals.lean).
  GIVEN WITH THE SEED: the statements are not yours to turn. If you find one false, say at which input.
  Laid BY PROGRAM, IN A SANDBOX (cutbox-rows.mjs): the forced cells as the released guide's own fill.sh prints them over the translation f90506172d7aa5d6… (all of the seat's roots in one cut). By AI agents, Wed Nov 11 2026. No macro, syntax, notation, axiom, sorry.
-/
import Derived.Test.YtmegfebgfhiigaaChecked
import GoSem.Claim
import GoSem.ClaimJoined
import GoSem.ClaimMapViews
import Derived.JoinedTies
import Derived.KernelRfl
namespace Go.Proofs.Ytmegfebgfhiigaa
/- THE CELL 'sum', in the pinned program and in every row, IS THE sha256 OF THE DUMP (.gsa) THAT YtmegfebgfhiigaaProg.lean LOADS. Nothing in Lean hashes anything: it is a label: what it is worth is what the hold of that sum in a sandbox is worth. -/
noncomputable def Try.pinned : Pinned := { name := "ytmegfebgfhiigaa", sum := "f90506172d7aa5d6ac343e2ead5a85e06e3f804cf942f5eeaaf54f28a2bb1586", checked := Try.checked }
namespace Rows
def none {H : Type} : Left H := { results := [], args := [] }

/-- 'laws.FnExactChosenOf': WHATEVER THE INPUT: true; the input reads as it did. -/
def fnExactChosenOfSpec : ChangeSpec := { name := "fnExactChosenOf", fn := fun _ => fun
  | [d1, d2] => { results := [.lit (.bool true)], args := [d1, d2] }
  | _ => none }
def fnExactChosenOfRow : OpenClaim := { program := "ytmegfebgfhiigaa", sum := "f90506172d7aa5d6ac343e2ead5a85e06e3f804cf942f5eeaaf54f28a2bb1586", func := "loop.example/copiedtexts/laws.FnExactChosenOf", spec := "fnExactChosenOf", apart := false }
def FnExactChosenOfSaid : Prop := fnExactChosenOfRow.holds Try.pinned (OpenSpec.ofChange fnExactChosenOfSpec)

/-- ITS FALSE NEIGHBOUR: 'it returns false'. Refute it at one input. -/
def fnExactChosenOfWrong : ChangeSpec := { name := "fnExactChosenOf", fn := fun _ => fun
  | [d1, d2] => { results := [.lit (.bool false)], args := [d1, d2] }
  | _ => none }
def FnExactChosenOfWrongFalsely : Prop := fnExactChosenOfRow.holds Try.pinned (OpenSpec.ofChange fnExactChosenOfWrong)

/-- 'laws.FnExactMarksOf': WHATEVER THE INPUT: true; the input reads as it did. -/
def fnExactMarksOfSpec : ChangeSpec := { name := "fnExactMarksOf", fn := fun _ => fun
  | [d1, d2, d3] => { results := [.lit (.bool true)], args := [d1, d2, d3] }
  | _ => none }
def fnExactMarksOfRow : OpenClaim := { program := "ytmegfebgfhiigaa", sum := "f90506172d7aa5d6ac343e2ead5a85e06e3f804cf942f5eeaaf54f28a2bb1586", func := "loop.example/copiedtexts/laws.FnExactMarksOf", spec := "fnExactMarksOf", apart := false }
def FnExactMarksOfSaid : Prop := fnExactMarksOfRow.holds Try.pinned (OpenSpec.ofChange fnExactMarksOfSpec)

/-- ITS FALSE NEIGHBOUR: 'it returns false'. Refute it at one input. -/
def fnExactMarksOfWrong : ChangeSpec := { name := "fnExactMarksOf", fn := fun _ => fun
  | [d1, d2, d3] => { results := [.lit (.bool false)], args := [d1, d2, d3] }
  | _ => none }
def FnExactMarksOfWrongFalsely : Prop := fnExactMarksOfRow.holds Try.pinned (OpenSpec.ofChange fnExactMarksOfWrong)

/-- 'laws.FnExactSureLength': WHATEVER THE INPUT: true; the input reads as it did. -/
def fnExactSureLengthSpec : ChangeSpec := { name := "fnExactSureLength", fn := fun _ => fun
  | [d1, d2] => { results := [.lit (.bool true)], args := [d1, d2] }
  | _ => none }
def fnExactSureLengthRow : OpenClaim := { program := "ytmegfebgfhiigaa", sum := "f90506172d7aa5d6ac343e2ead5a85e06e3f804cf942f5eeaaf54f28a2bb1586", func := "loop.example/copiedtexts/laws.FnExactSureLength", spec := "fnExactSureLength", apart := false }
def FnExactSureLengthSaid : Prop := fnExactSureLengthRow.holds Try.pinned (OpenSpec.ofChange fnExactSureLengthSpec)

/-- ITS FALSE NEIGHBOUR: 'it returns false'. Refute it at one input. -/
def fnExactSureLengthWrong : ChangeSpec := { name := "fnExactSureLength", fn := fun _ => fun
  | [d1, d2] => { results := [.lit (.bool false)], args := [d1, d2] }
  | _ => none }
def FnExactSureLengthWrongFalsely : Prop := fnExactSureLengthRow.holds Try.pinned (OpenSpec.ofChange fnExactSureLengthWrong)

/-- 'laws.FnExactTwinsOf': WHATEVER THE INPUT: true; the input reads as it did. -/
def fnExactTwinsOfSpec : ChangeSpec := { name := "fnExactTwinsOf", fn := fun _ => fun
  | [d1, d2] => { results := [.lit (.bool true)], args := [d1, d2] }
  | _ => none }
def fnExactTwinsOfRow : OpenClaim := { program := "ytmegfebgfhiigaa", sum := "f90506172d7aa5d6ac343e2ead5a85e06e3f804cf942f5eeaaf54f28a2bb1586", func := "loop.example/copiedtexts/laws.FnExactTwinsOf", spec := "fnExactTwinsOf", apart := false }
def FnExactTwinsOfSaid : Prop := fnExactTwinsOfRow.holds Try.pinned (OpenSpec.ofChange fnExactTwinsOfSpec)

/-- ITS FALSE NEIGHBOUR: 'it returns false'. Refute it at one input. -/
def fnExactTwinsOfWrong : ChangeSpec := { name := "fnExactTwinsOf", fn := fun _ => fun
  | [d1, d2] => { results := [.lit (.bool false)], args := [d1, d2] }
  | _ => none }
def FnExactTwinsOfWrongFalsely : Prop := fnExactTwinsOfRow.holds Try.pinned (OpenSpec.ofChange fnExactTwinsOfWrong)

/-- 'laws.FnExactMarksAfter': WHATEVER THE INPUT: true; the input reads as it did. -/
def fnExactMarksAfterSpec : ChangeSpec := { name := "fnExactMarksAfter", fn := fun _ => fun
  | [d1, d2, d3, d4] => { results := [.lit (.bool true)], args := [d1, d2, d3, d4] }
  | _ => none }
def fnExactMarksAfterRow : OpenClaim := { program := "ytmegfebgfhiigaa", sum := "f90506172d7aa5d6ac343e2ead5a85e06e3f804cf942f5eeaaf54f28a2bb1586", func := "loop.example/copiedtexts/laws.FnExactMarksAfter", spec := "fnExactMarksAfter", apart := false }
def FnExactMarksAfterSaid : Prop := fnExactMarksAfterRow.holds Try.pinned (OpenSpec.ofChange fnExactMarksAfterSpec)

/-- ITS FALSE NEIGHBOUR: 'it returns false'. Refute it at one input. -/
def fnExactMarksAfterWrong : ChangeSpec := { name := "fnExactMarksAfter", fn := fun _ => fun
  | [d1, d2, d3, d4] => { results := [.lit (.bool false)], args := [d1, d2, d3, d4] }
  | _ => none }
def FnExactMarksAfterWrongFalsely : Prop := fnExactMarksAfterRow.holds Try.pinned (OpenSpec.ofChange fnExactMarksAfterWrong)

/- THE SECOND FORM. 'bulk': how many values and letters a reading holds, each counted each time it is reached (what is shared counts as often as it is met; a slice's spare places count too). A statement '..UptoSaid' is the law's where the arguments, and the package variables that the reading takes, are together of bulk at most 1048576: NARROWER than '..Said'. Prove '..Said' where nothing that the law and all that it calls make is longer than what came in: it says more and counts as full. Else prove '..UptoSaid'. A law counts once. -/
mutual
def uptoBulk {H : Type} : DataW H → Nat
  | .lit (.string bytes) => bytes.length + 1
  | .lit _ => 1
  | .nil => 1
  | .ptr d => uptoBulk d + 1
  | .slice elems spare => uptoBulkAll elems + uptoBulkAll spare + 1
  | .agg parts => uptoBulkAll parts + 1
  | .iface _ d => uptoBulk d + 1
  | .map entries => uptoBulkEntries entries + 1
  | .held _ => 1
def uptoBulkAll {H : Type} : List (DataW H) → Nat
  | [] => 0
  | d :: r => uptoBulk d + uptoBulkAll r
def uptoBulkEntries {H : Type} : List (Lit × DataW H) → Nat
  | [] => 0
  | x :: r => uptoBulkEntry x + uptoBulkEntries r
def uptoBulkEntry {H : Type} : Lit × DataW H → Nat
  | (.string bytes, d) => bytes.length + uptoBulk d + 1
  | (_, d) => uptoBulk d + 1
 end
def uptoSmall : (H : Type) → List (DataW H) → Bool := fun _ ds => decide (uptoBulkAll ds ≤ 1048576)
def OpenSpec.upto (s : _root_.Go.ChangeSpec) : _root_.Go.OpenSpec := { _root_.Go.OpenSpec.ofChange s with cond := some uptoSmall }

/-- 'laws.FnExactChosenOf', WHERE WHAT IT READS IS OF BULK AT MOST 1048576: true; the input reads as it did. -/
def fnExactChosenOfUptoRow : OpenClaim := { program := "ytmegfebgfhiigaa", sum := "f90506172d7aa5d6ac343e2ead5a85e06e3f804cf942f5eeaaf54f28a2bb1586", func := "loop.example/copiedtexts/laws.FnExactChosenOf", spec := "fnExactChosenOf", apart := false, narrowed := true }
def FnExactChosenOfUptoSaid : Prop := fnExactChosenOfUptoRow.holds Try.pinned (OpenSpec.upto fnExactChosenOfSpec)

/-- 'laws.FnExactMarksOf', WHERE WHAT IT READS IS OF BULK AT MOST 1048576: true; the input reads as it did. -/
def fnExactMarksOfUptoRow : OpenClaim := { program := "ytmegfebgfhiigaa", sum := "f90506172d7aa5d6ac343e2ead5a85e06e3f804cf942f5eeaaf54f28a2bb1586", func := "loop.example/copiedtexts/laws.FnExactMarksOf", spec := "fnExactMarksOf", apart := false, narrowed := true }
def FnExactMarksOfUptoSaid : Prop := fnExactMarksOfUptoRow.holds Try.pinned (OpenSpec.upto fnExactMarksOfSpec)

/-- 'laws.FnExactSureLength', WHERE WHAT IT READS IS OF BULK AT MOST 1048576: true; the input reads as it did. -/
def fnExactSureLengthUptoRow : OpenClaim := { program := "ytmegfebgfhiigaa", sum := "f90506172d7aa5d6ac343e2ead5a85e06e3f804cf942f5eeaaf54f28a2bb1586", func := "loop.example/copiedtexts/laws.FnExactSureLength", spec := "fnExactSureLength", apart := false, narrowed := true }
def FnExactSureLengthUptoSaid : Prop := fnExactSureLengthUptoRow.holds Try.pinned (OpenSpec.upto fnExactSureLengthSpec)

/-- 'laws.FnExactTwinsOf', WHERE WHAT IT READS IS OF BULK AT MOST 1048576: true; the input reads as it did. -/
def fnExactTwinsOfUptoRow : OpenClaim := { program := "ytmegfebgfhiigaa", sum := "f90506172d7aa5d6ac343e2ead5a85e06e3f804cf942f5eeaaf54f28a2bb1586", func := "loop.example/copiedtexts/laws.FnExactTwinsOf", spec := "fnExactTwinsOf", apart := false, narrowed := true }
def FnExactTwinsOfUptoSaid : Prop := fnExactTwinsOfUptoRow.holds Try.pinned (OpenSpec.upto fnExactTwinsOfSpec)

/-- 'laws.FnExactMarksAfter', WHERE WHAT IT READS IS OF BULK AT MOST 1048576: true; the input reads as it did. -/
def fnExactMarksAfterUptoRow : OpenClaim := { program := "ytmegfebgfhiigaa", sum := "f90506172d7aa5d6ac343e2ead5a85e06e3f804cf942f5eeaaf54f28a2bb1586", func := "loop.example/copiedtexts/laws.FnExactMarksAfter", spec := "fnExactMarksAfter", apart := false, narrowed := true }
def FnExactMarksAfterUptoSaid : Prop := fnExactMarksAfterUptoRow.holds Try.pinned (OpenSpec.upto fnExactMarksAfterSpec)

end Rows
end Go.Proofs.Ytmegfebgfhiigaa
