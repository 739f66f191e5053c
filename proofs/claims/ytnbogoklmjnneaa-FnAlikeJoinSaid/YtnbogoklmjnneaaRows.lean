/-
  No cell of these rows narrows 'for every input' (looked for: loops, veiled, ifaces, maps, wideKeys, modest, calm, conditions, laid).
  DERIVED. THE GIVEN ROWS OF THIS SEAT. 10 by the template 'for every input the law returns true; each argument reads behind the call as it read before'; 0 by the template 'total and deterministic' (their statements: YtnbogoklmjnneaaTotals.lean).
  GIVEN WITH THE SEED: the statements are not yours to turn. If you find one false, say at which input.
  Laid BY PROGRAM, IN A SANDBOX (cutbox-rows.mjs): the forced cells as the released guide's own fill.sh prints them over the translation 353c406063a07e79… (all of the seat's roots in one cut). By AI agents, Wed Nov 11 2026. No macro, syntax, notation, axiom, sorry.
-/
import Derived.Test.YtnbogoklmjnneaaChecked
import GoSem.Claim
import GoSem.ClaimJoined
import GoSem.ClaimMapViews
import Derived.JoinedTies
import Derived.KernelRfl
namespace Go.Proofs.Ytnbogoklmjnneaa
/- THE CELL 'sum', in the pinned program and in every row, IS THE sha256 OF THE DUMP (.gsa) THAT YtnbogoklmjnneaaProg.lean LOADS. Nothing in Lean hashes anything: it is a label: what it is worth is what the hold of that sum in a sandbox is worth. -/
noncomputable def Try.pinned : Pinned := { name := "ytnbogoklmjnneaa", sum := "353c406063a07e7999eed2f5525df715df8556e053406cb3c353b8dc448b406c", checked := Try.checked }
namespace Rows
def none {H : Type} : Left H := { results := [], args := [] }

/-- 'laws.FnSignOf': WHATEVER THE INPUT: true; the input reads as it did. -/
def fnSignOfSpec : ChangeSpec := { name := "fnSignOf", fn := fun _ => fun
  | [d] => { results := [.lit (.bool true)], args := [d] }
  | _ => none }
def fnSignOfRow : OpenClaim := { program := "ytnbogoklmjnneaa", sum := "353c406063a07e7999eed2f5525df715df8556e053406cb3c353b8dc448b406c", func := "loop.example/copiedtexts/laws.FnSignOf", spec := "fnSignOf", apart := false }
def FnSignOfSaid : Prop := fnSignOfRow.holds Try.pinned (OpenSpec.ofChange fnSignOfSpec)

/-- ITS FALSE NEIGHBOUR: 'it returns false'. Refute it at one input. -/
def fnSignOfWrong : ChangeSpec := { name := "fnSignOf", fn := fun _ => fun
  | [d] => { results := [.lit (.bool false)], args := [d] }
  | _ => none }
def FnSignOfWrongFalsely : Prop := fnSignOfRow.holds Try.pinned (OpenSpec.ofChange fnSignOfWrong)

/-- 'laws.FnAlike': WHATEVER THE INPUT: true; the input reads as it did. -/
def fnAlikeSpec : ChangeSpec := { name := "fnAlike", fn := fun _ => fun
  | [d] => { results := [.lit (.bool true)], args := [d] }
  | _ => none }
def fnAlikeRow : OpenClaim := { program := "ytnbogoklmjnneaa", sum := "353c406063a07e7999eed2f5525df715df8556e053406cb3c353b8dc448b406c", func := "loop.example/copiedtexts/laws.FnAlike", spec := "fnAlike", apart := false }
def FnAlikeSaid : Prop := fnAlikeRow.holds Try.pinned (OpenSpec.ofChange fnAlikeSpec)

/-- ITS FALSE NEIGHBOUR: 'it returns false'. Refute it at one input. -/
def fnAlikeWrong : ChangeSpec := { name := "fnAlike", fn := fun _ => fun
  | [d] => { results := [.lit (.bool false)], args := [d] }
  | _ => none }
def FnAlikeWrongFalsely : Prop := fnAlikeRow.holds Try.pinned (OpenSpec.ofChange fnAlikeWrong)

/-- 'laws.FnAlikeAgain': WHATEVER THE INPUT: true; the input reads as it did. -/
def fnAlikeAgainSpec : ChangeSpec := { name := "fnAlikeAgain", fn := fun _ => fun
  | [d] => { results := [.lit (.bool true)], args := [d] }
  | _ => none }
def fnAlikeAgainRow : OpenClaim := { program := "ytnbogoklmjnneaa", sum := "353c406063a07e7999eed2f5525df715df8556e053406cb3c353b8dc448b406c", func := "loop.example/copiedtexts/laws.FnAlikeAgain", spec := "fnAlikeAgain", apart := false }
def FnAlikeAgainSaid : Prop := fnAlikeAgainRow.holds Try.pinned (OpenSpec.ofChange fnAlikeAgainSpec)

/-- ITS FALSE NEIGHBOUR: 'it returns false'. Refute it at one input. -/
def fnAlikeAgainWrong : ChangeSpec := { name := "fnAlikeAgain", fn := fun _ => fun
  | [d] => { results := [.lit (.bool false)], args := [d] }
  | _ => none }
def FnAlikeAgainWrongFalsely : Prop := fnAlikeAgainRow.holds Try.pinned (OpenSpec.ofChange fnAlikeAgainWrong)

/-- 'laws.FnIsAlike': WHATEVER THE INPUT: true; the input reads as it did. -/
def fnIsAlikeSpec : ChangeSpec := { name := "fnIsAlike", fn := fun _ => fun
  | [d] => { results := [.lit (.bool true)], args := [d] }
  | _ => none }
def fnIsAlikeRow : OpenClaim := { program := "ytnbogoklmjnneaa", sum := "353c406063a07e7999eed2f5525df715df8556e053406cb3c353b8dc448b406c", func := "loop.example/copiedtexts/laws.FnIsAlike", spec := "fnIsAlike", apart := false }
def FnIsAlikeSaid : Prop := fnIsAlikeRow.holds Try.pinned (OpenSpec.ofChange fnIsAlikeSpec)

/-- ITS FALSE NEIGHBOUR: 'it returns false'. Refute it at one input. -/
def fnIsAlikeWrong : ChangeSpec := { name := "fnIsAlike", fn := fun _ => fun
  | [d] => { results := [.lit (.bool false)], args := [d] }
  | _ => none }
def FnIsAlikeWrongFalsely : Prop := fnIsAlikeRow.holds Try.pinned (OpenSpec.ofChange fnIsAlikeWrong)

/-- 'laws.FnSameAlike': WHATEVER THE INPUT: true; the input reads as it did. -/
def fnSameAlikeSpec : ChangeSpec := { name := "fnSameAlike", fn := fun _ => fun
  | [d] => { results := [.lit (.bool true)], args := [d] }
  | _ => none }
def fnSameAlikeRow : OpenClaim := { program := "ytnbogoklmjnneaa", sum := "353c406063a07e7999eed2f5525df715df8556e053406cb3c353b8dc448b406c", func := "loop.example/copiedtexts/laws.FnSameAlike", spec := "fnSameAlike", apart := false }
def FnSameAlikeSaid : Prop := fnSameAlikeRow.holds Try.pinned (OpenSpec.ofChange fnSameAlikeSpec)

/-- ITS FALSE NEIGHBOUR: 'it returns false'. Refute it at one input. -/
def fnSameAlikeWrong : ChangeSpec := { name := "fnSameAlike", fn := fun _ => fun
  | [d] => { results := [.lit (.bool false)], args := [d] }
  | _ => none }
def FnSameAlikeWrongFalsely : Prop := fnSameAlikeRow.holds Try.pinned (OpenSpec.ofChange fnSameAlikeWrong)

/-- 'laws.FnAlikeJoin': WHATEVER THE INPUT: true; the input reads as it did. -/
def fnAlikeJoinSpec : ChangeSpec := { name := "fnAlikeJoin", fn := fun _ => fun
  | [d] => { results := [.lit (.bool true)], args := [d] }
  | _ => none }
def fnAlikeJoinRow : OpenClaim := { program := "ytnbogoklmjnneaa", sum := "353c406063a07e7999eed2f5525df715df8556e053406cb3c353b8dc448b406c", func := "loop.example/copiedtexts/laws.FnAlikeJoin", spec := "fnAlikeJoin", apart := false }
def FnAlikeJoinSaid : Prop := fnAlikeJoinRow.holds Try.pinned (OpenSpec.ofChange fnAlikeJoinSpec)

/-- ITS FALSE NEIGHBOUR: 'it returns false'. Refute it at one input. -/
def fnAlikeJoinWrong : ChangeSpec := { name := "fnAlikeJoin", fn := fun _ => fun
  | [d] => { results := [.lit (.bool false)], args := [d] }
  | _ => none }
def FnAlikeJoinWrongFalsely : Prop := fnAlikeJoinRow.holds Try.pinned (OpenSpec.ofChange fnAlikeJoinWrong)

/-- 'laws.FnSpanBack': WHATEVER THE INPUT: true; the input reads as it did. -/
def fnSpanBackSpec : ChangeSpec := { name := "fnSpanBack", fn := fun _ => fun
  | [d] => { results := [.lit (.bool true)], args := [d] }
  | _ => none }
def fnSpanBackRow : OpenClaim := { program := "ytnbogoklmjnneaa", sum := "353c406063a07e7999eed2f5525df715df8556e053406cb3c353b8dc448b406c", func := "loop.example/copiedtexts/laws.FnSpanBack", spec := "fnSpanBack", apart := false }
def FnSpanBackSaid : Prop := fnSpanBackRow.holds Try.pinned (OpenSpec.ofChange fnSpanBackSpec)

/-- ITS FALSE NEIGHBOUR: 'it returns false'. Refute it at one input. -/
def fnSpanBackWrong : ChangeSpec := { name := "fnSpanBack", fn := fun _ => fun
  | [d] => { results := [.lit (.bool false)], args := [d] }
  | _ => none }
def FnSpanBackWrongFalsely : Prop := fnSpanBackRow.holds Try.pinned (OpenSpec.ofChange fnSpanBackWrong)

/-- 'laws.FnSignCounts': WHATEVER THE INPUT: true; the input reads as it did. -/
def fnSignCountsSpec : ChangeSpec := { name := "fnSignCounts", fn := fun _ => fun
  | [d] => { results := [.lit (.bool true)], args := [d] }
  | _ => none }
def fnSignCountsRow : OpenClaim := { program := "ytnbogoklmjnneaa", sum := "353c406063a07e7999eed2f5525df715df8556e053406cb3c353b8dc448b406c", func := "loop.example/copiedtexts/laws.FnSignCounts", spec := "fnSignCounts", apart := false }
def FnSignCountsSaid : Prop := fnSignCountsRow.holds Try.pinned (OpenSpec.ofChange fnSignCountsSpec)

/-- ITS FALSE NEIGHBOUR: 'it returns false'. Refute it at one input. -/
def fnSignCountsWrong : ChangeSpec := { name := "fnSignCounts", fn := fun _ => fun
  | [d] => { results := [.lit (.bool false)], args := [d] }
  | _ => none }
def FnSignCountsWrongFalsely : Prop := fnSignCountsRow.holds Try.pinned (OpenSpec.ofChange fnSignCountsWrong)

/-- 'laws.FnAnyAlikeAgain': WHATEVER THE INPUT: true; the input reads as it did. -/
def fnAnyAlikeAgainSpec : ChangeSpec := { name := "fnAnyAlikeAgain", fn := fun _ => fun
  | [d] => { results := [.lit (.bool true)], args := [d] }
  | _ => none }
def fnAnyAlikeAgainRow : OpenClaim := { program := "ytnbogoklmjnneaa", sum := "353c406063a07e7999eed2f5525df715df8556e053406cb3c353b8dc448b406c", func := "loop.example/copiedtexts/laws.FnAnyAlikeAgain", spec := "fnAnyAlikeAgain", apart := false }
def FnAnyAlikeAgainSaid : Prop := fnAnyAlikeAgainRow.holds Try.pinned (OpenSpec.ofChange fnAnyAlikeAgainSpec)

/-- ITS FALSE NEIGHBOUR: 'it returns false'. Refute it at one input. -/
def fnAnyAlikeAgainWrong : ChangeSpec := { name := "fnAnyAlikeAgain", fn := fun _ => fun
  | [d] => { results := [.lit (.bool false)], args := [d] }
  | _ => none }
def FnAnyAlikeAgainWrongFalsely : Prop := fnAnyAlikeAgainRow.holds Try.pinned (OpenSpec.ofChange fnAnyAlikeAgainWrong)

/-- 'laws.FnAnyAlikeJoin': WHATEVER THE INPUT: true; the input reads as it did. -/
def fnAnyAlikeJoinSpec : ChangeSpec := { name := "fnAnyAlikeJoin", fn := fun _ => fun
  | [d1, d2, d3] => { results := [.lit (.bool true)], args := [d1, d2, d3] }
  | _ => none }
def fnAnyAlikeJoinRow : OpenClaim := { program := "ytnbogoklmjnneaa", sum := "353c406063a07e7999eed2f5525df715df8556e053406cb3c353b8dc448b406c", func := "loop.example/copiedtexts/laws.FnAnyAlikeJoin", spec := "fnAnyAlikeJoin", apart := false }
def FnAnyAlikeJoinSaid : Prop := fnAnyAlikeJoinRow.holds Try.pinned (OpenSpec.ofChange fnAnyAlikeJoinSpec)

/-- ITS FALSE NEIGHBOUR: 'it returns false'. Refute it at one input. -/
def fnAnyAlikeJoinWrong : ChangeSpec := { name := "fnAnyAlikeJoin", fn := fun _ => fun
  | [d1, d2, d3] => { results := [.lit (.bool false)], args := [d1, d2, d3] }
  | _ => none }
def FnAnyAlikeJoinWrongFalsely : Prop := fnAnyAlikeJoinRow.holds Try.pinned (OpenSpec.ofChange fnAnyAlikeJoinWrong)

/- THE SECOND FORM. 'bulk': how many values and letters a reading holds, each counted each time it is reached (what is shared counts as often as it is met; a slice's spare places count too). A statement '..UptoSaid' is the law's where the arguments, and the package variables that the reading takes, are together of bulk at most 1048576: NARROWER than '..Said'. Prove '..Said' where nothing that the law and all that it calls make is longer than what came in: it says more and counts as full. Else prove '..UptoSaid'. A law counts once. -/
mutual
def uptoBulk {H : Type} : DataW H → Nat
  | .lit (.string bytes) => bytes.length + 1
  | .lit _ => 1
  | .nil => 1
  | .ptr d => uptoBulk d + 1
  | .slice elems spare => uptoBulkAll elems + uptoBulkAll spare + 1
  | .agg parts => uptoBulkAll parts + 1
  | .iface _ d => uptoBulk d + 1
  | .map entries => uptoBulkEntries entries + 1
  | .held _ => 1
def uptoBulkAll {H : Type} : List (DataW H) → Nat
  | [] => 0
  | d :: r => uptoBulk d + uptoBulkAll r
def uptoBulkEntries {H : Type} : List (Lit × DataW H) → Nat
  | [] => 0
  | x :: r => uptoBulkEntry x + uptoBulkEntries r
def uptoBulkEntry {H : Type} : Lit × DataW H → Nat
  | (.string bytes, d) => bytes.length + uptoBulk d + 1
  | (_, d) => uptoBulk d + 1
 end
def uptoSmall : (H : Type) → List (DataW H) → Bool := fun _ ds => decide (uptoBulkAll ds ≤ 1048576)
def OpenSpec.upto (s : _root_.Go.ChangeSpec) : _root_.Go.OpenSpec := { _root_.Go.OpenSpec.ofChange s with cond := some uptoSmall }

/-- 'laws.FnSignOf', WHERE WHAT IT READS IS OF BULK AT MOST 1048576: true; the input reads as it did. -/
def fnSignOfUptoRow : OpenClaim := { program := "ytnbogoklmjnneaa", sum := "353c406063a07e7999eed2f5525df715df8556e053406cb3c353b8dc448b406c", func := "loop.example/copiedtexts/laws.FnSignOf", spec := "fnSignOf", apart := false, narrowed := true }
def FnSignOfUptoSaid : Prop := fnSignOfUptoRow.holds Try.pinned (OpenSpec.upto fnSignOfSpec)

/-- 'laws.FnAlike', WHERE WHAT IT READS IS OF BULK AT MOST 1048576: true; the input reads as it did. -/
def fnAlikeUptoRow : OpenClaim := { program := "ytnbogoklmjnneaa", sum := "353c406063a07e7999eed2f5525df715df8556e053406cb3c353b8dc448b406c", func := "loop.example/copiedtexts/laws.FnAlike", spec := "fnAlike", apart := false, narrowed := true }
def FnAlikeUptoSaid : Prop := fnAlikeUptoRow.holds Try.pinned (OpenSpec.upto fnAlikeSpec)

/-- 'laws.FnAlikeAgain', WHERE WHAT IT READS IS OF BULK AT MOST 1048576: true; the input reads as it did. -/
def fnAlikeAgainUptoRow : OpenClaim := { program := "ytnbogoklmjnneaa", sum := "353c406063a07e7999eed2f5525df715df8556e053406cb3c353b8dc448b406c", func := "loop.example/copiedtexts/laws.FnAlikeAgain", spec := "fnAlikeAgain", apart := false, narrowed := true }
def FnAlikeAgainUptoSaid : Prop := fnAlikeAgainUptoRow.holds Try.pinned (OpenSpec.upto fnAlikeAgainSpec)

/-- 'laws.FnIsAlike', WHERE WHAT IT READS IS OF BULK AT MOST 1048576: true; the input reads as it did. -/
def fnIsAlikeUptoRow : OpenClaim := { program := "ytnbogoklmjnneaa", sum := "353c406063a07e7999eed2f5525df715df8556e053406cb3c353b8dc448b406c", func := "loop.example/copiedtexts/laws.FnIsAlike", spec := "fnIsAlike", apart := false, narrowed := true }
def FnIsAlikeUptoSaid : Prop := fnIsAlikeUptoRow.holds Try.pinned (OpenSpec.upto fnIsAlikeSpec)

/-- 'laws.FnSameAlike', WHERE WHAT IT READS IS OF BULK AT MOST 1048576: true; the input reads as it did. -/
def fnSameAlikeUptoRow : OpenClaim := { program := "ytnbogoklmjnneaa", sum := "353c406063a07e7999eed2f5525df715df8556e053406cb3c353b8dc448b406c", func := "loop.example/copiedtexts/laws.FnSameAlike", spec := "fnSameAlike", apart := false, narrowed := true }
def FnSameAlikeUptoSaid : Prop := fnSameAlikeUptoRow.holds Try.pinned (OpenSpec.upto fnSameAlikeSpec)

/-- 'laws.FnAlikeJoin', WHERE WHAT IT READS IS OF BULK AT MOST 1048576: true; the input reads as it did. -/
def fnAlikeJoinUptoRow : OpenClaim := { program := "ytnbogoklmjnneaa", sum := "353c406063a07e7999eed2f5525df715df8556e053406cb3c353b8dc448b406c", func := "loop.example/copiedtexts/laws.FnAlikeJoin", spec := "fnAlikeJoin", apart := false, narrowed := true }
def FnAlikeJoinUptoSaid : Prop := fnAlikeJoinUptoRow.holds Try.pinned (OpenSpec.upto fnAlikeJoinSpec)

/-- 'laws.FnSpanBack', WHERE WHAT IT READS IS OF BULK AT MOST 1048576: true; the input reads as it did. -/
def fnSpanBackUptoRow : OpenClaim := { program := "ytnbogoklmjnneaa", sum := "353c406063a07e7999eed2f5525df715df8556e053406cb3c353b8dc448b406c", func := "loop.example/copiedtexts/laws.FnSpanBack", spec := "fnSpanBack", apart := false, narrowed := true }
def FnSpanBackUptoSaid : Prop := fnSpanBackUptoRow.holds Try.pinned (OpenSpec.upto fnSpanBackSpec)

/-- 'laws.FnSignCounts', WHERE WHAT IT READS IS OF BULK AT MOST 1048576: true; the input reads as it did. -/
def fnSignCountsUptoRow : OpenClaim := { program := "ytnbogoklmjnneaa", sum := "353c406063a07e7999eed2f5525df715df8556e053406cb3c353b8dc448b406c", func := "loop.example/copiedtexts/laws.FnSignCounts", spec := "fnSignCounts", apart := false, narrowed := true }
def FnSignCountsUptoSaid : Prop := fnSignCountsUptoRow.holds Try.pinned (OpenSpec.upto fnSignCountsSpec)

/-- 'laws.FnAnyAlikeAgain', WHERE WHAT IT READS IS OF BULK AT MOST 1048576: true; the input reads as it did. -/
def fnAnyAlikeAgainUptoRow : OpenClaim := { program := "ytnbogoklmjnneaa", sum := "353c406063a07e7999eed2f5525df715df8556e053406cb3c353b8dc448b406c", func := "loop.example/copiedtexts/laws.FnAnyAlikeAgain", spec := "fnAnyAlikeAgain", apart := false, narrowed := true }
def FnAnyAlikeAgainUptoSaid : Prop := fnAnyAlikeAgainUptoRow.holds Try.pinned (OpenSpec.upto fnAnyAlikeAgainSpec)

/-- 'laws.FnAnyAlikeJoin', WHERE WHAT IT READS IS OF BULK AT MOST 1048576: true; the input reads as it did. -/
def fnAnyAlikeJoinUptoRow : OpenClaim := { program := "ytnbogoklmjnneaa", sum := "353c406063a07e7999eed2f5525df715df8556e053406cb3c353b8dc448b406c", func := "loop.example/copiedtexts/laws.FnAnyAlikeJoin", spec := "fnAnyAlikeJoin", apart := false, narrowed := true }
def FnAnyAlikeJoinUptoSaid : Prop := fnAnyAlikeJoinUptoRow.holds Try.pinned (OpenSpec.upto fnAnyAlikeJoinSpec)

end Rows
end Go.Proofs.Ytnbogoklmjnneaa
