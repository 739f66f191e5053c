/-
  No cell of these rows narrows 'for every input' (looked for: loops, veiled, ifaces, maps, wideKeys, modest, calm, conditions, laid).
  DERIVED. THE GIVEN ROWS OF THIS SEAT. 6 by the template 'for every input the law returns true; each argument reads behind the call as it read before'; 0 by the template 'total and deterministic' (their statements: YtdlemobjpiddjaaTotals.lean).
  GIVEN WITH THE SEED: the statements are not yours to turn. If you find one false, say at which input.
  Laid BY PROGRAM, IN A SANDBOX (cutbox-rows.mjs): the forced cells as the released guide's own fill.sh prints them over the translation 38ef26ec2edac166… (all of the seat's roots in one cut). By AI agents, Wed Nov 11 2026. No macro, syntax, notation, axiom, sorry.
-/
import Derived.Test.YtdlemobjpiddjaaChecked
import GoSem.Claim
import GoSem.ClaimJoined
import GoSem.ClaimMapViews
import Derived.JoinedTies
import Derived.KernelRfl
namespace Go.Proofs.Ytdlemobjpiddjaa
/- THE CELL 'sum', in the pinned program and in every row, IS THE sha256 OF THE DUMP (.gsa) THAT YtdlemobjpiddjaaProg.lean LOADS. Nothing in Lean hashes anything: it is a label: what it is worth is what the hold of that sum in a sandbox is worth. -/
noncomputable def Try.pinned : Pinned := { name := "ytdlemobjpiddjaa", sum := "38ef26ec2edac1667094a6b0cff92a75551c71822462afad16554ee3709c49b3", checked := Try.checked }
namespace Rows
def none {H : Type} : Left H := { results := [], args := [] }

/-- 'laws.FnExactSignOf': WHATEVER THE INPUT: true; the input reads as it did. -/
def fnExactSignOfSpec : ChangeSpec := { name := "fnExactSignOf", fn := fun _ => fun
  | [d] => { results := [.lit (.bool true)], args := [d] }
  | _ => none }
def fnExactSignOfRow : OpenClaim := { program := "ytdlemobjpiddjaa", sum := "38ef26ec2edac1667094a6b0cff92a75551c71822462afad16554ee3709c49b3", func := "loop.example/copiedtexts/laws.FnExactSignOf", spec := "fnExactSignOf", apart := false }
def FnExactSignOfSaid : Prop := fnExactSignOfRow.holds Try.pinned (OpenSpec.ofChange fnExactSignOfSpec)

/-- ITS FALSE NEIGHBOUR: 'it returns false'. Refute it at one input. -/
def fnExactSignOfWrong : ChangeSpec := { name := "fnExactSignOf", fn := fun _ => fun
  | [d] => { results := [.lit (.bool false)], args := [d] }
  | _ => none }
def FnExactSignOfWrongFalsely : Prop := fnExactSignOfRow.holds Try.pinned (OpenSpec.ofChange fnExactSignOfWrong)

/-- 'laws.FnExactAlike': WHATEVER THE INPUT: true; the input reads as it did. -/
def fnExactAlikeSpec : ChangeSpec := { name := "fnExactAlike", fn := fun _ => fun
  | [d] => { results := [.lit (.bool true)], args := [d] }
  | _ => none }
def fnExactAlikeRow : OpenClaim := { program := "ytdlemobjpiddjaa", sum := "38ef26ec2edac1667094a6b0cff92a75551c71822462afad16554ee3709c49b3", func := "loop.example/copiedtexts/laws.FnExactAlike", spec := "fnExactAlike", apart := false }
def FnExactAlikeSaid : Prop := fnExactAlikeRow.holds Try.pinned (OpenSpec.ofChange fnExactAlikeSpec)

/-- ITS FALSE NEIGHBOUR: 'it returns false'. Refute it at one input. -/
def fnExactAlikeWrong : ChangeSpec := { name := "fnExactAlike", fn := fun _ => fun
  | [d] => { results := [.lit (.bool false)], args := [d] }
  | _ => none }
def FnExactAlikeWrongFalsely : Prop := fnExactAlikeRow.holds Try.pinned (OpenSpec.ofChange fnExactAlikeWrong)

/-- 'laws.FnExactIsAlike': WHATEVER THE INPUT: true; the input reads as it did. -/
def fnExactIsAlikeSpec : ChangeSpec := { name := "fnExactIsAlike", fn := fun _ => fun
  | [d] => { results := [.lit (.bool true)], args := [d] }
  | _ => none }
def fnExactIsAlikeRow : OpenClaim := { program := "ytdlemobjpiddjaa", sum := "38ef26ec2edac1667094a6b0cff92a75551c71822462afad16554ee3709c49b3", func := "loop.example/copiedtexts/laws.FnExactIsAlike", spec := "fnExactIsAlike", apart := false }
def FnExactIsAlikeSaid : Prop := fnExactIsAlikeRow.holds Try.pinned (OpenSpec.ofChange fnExactIsAlikeSpec)

/-- ITS FALSE NEIGHBOUR: 'it returns false'. Refute it at one input. -/
def fnExactIsAlikeWrong : ChangeSpec := { name := "fnExactIsAlike", fn := fun _ => fun
  | [d] => { results := [.lit (.bool false)], args := [d] }
  | _ => none }
def FnExactIsAlikeWrongFalsely : Prop := fnExactIsAlikeRow.holds Try.pinned (OpenSpec.ofChange fnExactIsAlikeWrong)

/-- 'laws.FnExactSameAlike': WHATEVER THE INPUT: true; the input reads as it did. -/
def fnExactSameAlikeSpec : ChangeSpec := { name := "fnExactSameAlike", fn := fun _ => fun
  | [d1, d2] => { results := [.lit (.bool true)], args := [d1, d2] }
  | _ => none }
def fnExactSameAlikeRow : OpenClaim := { program := "ytdlemobjpiddjaa", sum := "38ef26ec2edac1667094a6b0cff92a75551c71822462afad16554ee3709c49b3", func := "loop.example/copiedtexts/laws.FnExactSameAlike", spec := "fnExactSameAlike", apart := false }
def FnExactSameAlikeSaid : Prop := fnExactSameAlikeRow.holds Try.pinned (OpenSpec.ofChange fnExactSameAlikeSpec)

/-- ITS FALSE NEIGHBOUR: 'it returns false'. Refute it at one input. -/
def fnExactSameAlikeWrong : ChangeSpec := { name := "fnExactSameAlike", fn := fun _ => fun
  | [d1, d2] => { results := [.lit (.bool false)], args := [d1, d2] }
  | _ => none }
def FnExactSameAlikeWrongFalsely : Prop := fnExactSameAlikeRow.holds Try.pinned (OpenSpec.ofChange fnExactSameAlikeWrong)

/-- 'laws.FnExactSpanBack': WHATEVER THE INPUT: true; the input reads as it did. -/
def fnExactSpanBackSpec : ChangeSpec := { name := "fnExactSpanBack", fn := fun _ => fun
  | [d1, d2, d3] => { results := [.lit (.bool true)], args := [d1, d2, d3] }
  | _ => none }
def fnExactSpanBackRow : OpenClaim := { program := "ytdlemobjpiddjaa", sum := "38ef26ec2edac1667094a6b0cff92a75551c71822462afad16554ee3709c49b3", func := "loop.example/copiedtexts/laws.FnExactSpanBack", spec := "fnExactSpanBack", apart := false }
def FnExactSpanBackSaid : Prop := fnExactSpanBackRow.holds Try.pinned (OpenSpec.ofChange fnExactSpanBackSpec)

/-- ITS FALSE NEIGHBOUR: 'it returns false'. Refute it at one input. -/
def fnExactSpanBackWrong : ChangeSpec := { name := "fnExactSpanBack", fn := fun _ => fun
  | [d1, d2, d3] => { results := [.lit (.bool false)], args := [d1, d2, d3] }
  | _ => none }
def FnExactSpanBackWrongFalsely : Prop := fnExactSpanBackRow.holds Try.pinned (OpenSpec.ofChange fnExactSpanBackWrong)

/-- 'laws.FnExactSignCounts': WHATEVER THE INPUT: true; the input reads as it did. -/
def fnExactSignCountsSpec : ChangeSpec := { name := "fnExactSignCounts", fn := fun _ => fun
  | [d] => { results := [.lit (.bool true)], args := [d] }
  | _ => none }
def fnExactSignCountsRow : OpenClaim := { program := "ytdlemobjpiddjaa", sum := "38ef26ec2edac1667094a6b0cff92a75551c71822462afad16554ee3709c49b3", func := "loop.example/copiedtexts/laws.FnExactSignCounts", spec := "fnExactSignCounts", apart := false }
def FnExactSignCountsSaid : Prop := fnExactSignCountsRow.holds Try.pinned (OpenSpec.ofChange fnExactSignCountsSpec)

/-- ITS FALSE NEIGHBOUR: 'it returns false'. Refute it at one input. -/
def fnExactSignCountsWrong : ChangeSpec := { name := "fnExactSignCounts", fn := fun _ => fun
  | [d] => { results := [.lit (.bool false)], args := [d] }
  | _ => none }
def FnExactSignCountsWrongFalsely : Prop := fnExactSignCountsRow.holds Try.pinned (OpenSpec.ofChange fnExactSignCountsWrong)

/- THE SECOND FORM. 'bulk': how many values and letters a reading holds, each counted each time it is reached (what is shared counts as often as it is met; a slice's spare places count too). A statement '..UptoSaid' is the law's where the arguments, and the package variables that the reading takes, are together of bulk at most 1048576: NARROWER than '..Said'. Prove '..Said' where nothing that the law and all that it calls make is longer than what came in: it says more and counts as full. Else prove '..UptoSaid'. A law counts once. -/
mutual
def uptoBulk {H : Type} : DataW H → Nat
  | .lit (.string bytes) => bytes.length + 1
  | .lit _ => 1
  | .nil => 1
  | .ptr d => uptoBulk d + 1
  | .slice elems spare => uptoBulkAll elems + uptoBulkAll spare + 1
  | .agg parts => uptoBulkAll parts + 1
  | .iface _ d => uptoBulk d + 1
  | .map entries => uptoBulkEntries entries + 1
  | .held _ => 1
def uptoBulkAll {H : Type} : List (DataW H) → Nat
  | [] => 0
  | d :: r => uptoBulk d + uptoBulkAll r
def uptoBulkEntries {H : Type} : List (Lit × DataW H) → Nat
  | [] => 0
  | x :: r => uptoBulkEntry x + uptoBulkEntries r
def uptoBulkEntry {H : Type} : Lit × DataW H → Nat
  | (.string bytes, d) => bytes.length + uptoBulk d + 1
  | (_, d) => uptoBulk d + 1
 end
def uptoSmall : (H : Type) → List (DataW H) → Bool := fun _ ds => decide (uptoBulkAll ds ≤ 1048576)
def OpenSpec.upto (s : _root_.Go.ChangeSpec) : _root_.Go.OpenSpec := { _root_.Go.OpenSpec.ofChange s with cond := some uptoSmall }

/-- 'laws.FnExactSignOf', WHERE WHAT IT READS IS OF BULK AT MOST 1048576: true; the input reads as it did. -/
def fnExactSignOfUptoRow : OpenClaim := { program := "ytdlemobjpiddjaa", sum := "38ef26ec2edac1667094a6b0cff92a75551c71822462afad16554ee3709c49b3", func := "loop.example/copiedtexts/laws.FnExactSignOf", spec := "fnExactSignOf", apart := false, narrowed := true }
def FnExactSignOfUptoSaid : Prop := fnExactSignOfUptoRow.holds Try.pinned (OpenSpec.upto fnExactSignOfSpec)

/-- 'laws.FnExactAlike', WHERE WHAT IT READS IS OF BULK AT MOST 1048576: true; the input reads as it did. -/
def fnExactAlikeUptoRow : OpenClaim := { program := "ytdlemobjpiddjaa", sum := "38ef26ec2edac1667094a6b0cff92a75551c71822462afad16554ee3709c49b3", func := "loop.example/copiedtexts/laws.FnExactAlike", spec := "fnExactAlike", apart := false, narrowed := true }
def FnExactAlikeUptoSaid : Prop := fnExactAlikeUptoRow.holds Try.pinned (OpenSpec.upto fnExactAlikeSpec)

/-- 'laws.FnExactIsAlike', WHERE WHAT IT READS IS OF BULK AT MOST 1048576: true; the input reads as it did. -/
def fnExactIsAlikeUptoRow : OpenClaim := { program := "ytdlemobjpiddjaa", sum := "38ef26ec2edac1667094a6b0cff92a75551c71822462afad16554ee3709c49b3", func := "loop.example/copiedtexts/laws.FnExactIsAlike", spec := "fnExactIsAlike", apart := false, narrowed := true }
def FnExactIsAlikeUptoSaid : Prop := fnExactIsAlikeUptoRow.holds Try.pinned (OpenSpec.upto fnExactIsAlikeSpec)

/-- 'laws.FnExactSameAlike', WHERE WHAT IT READS IS OF BULK AT MOST 1048576: true; the input reads as it did. -/
def fnExactSameAlikeUptoRow : OpenClaim := { program := "ytdlemobjpiddjaa", sum := "38ef26ec2edac1667094a6b0cff92a75551c71822462afad16554ee3709c49b3", func := "loop.example/copiedtexts/laws.FnExactSameAlike", spec := "fnExactSameAlike", apart := false, narrowed := true }
def FnExactSameAlikeUptoSaid : Prop := fnExactSameAlikeUptoRow.holds Try.pinned (OpenSpec.upto fnExactSameAlikeSpec)

/-- 'laws.FnExactSpanBack', WHERE WHAT IT READS IS OF BULK AT MOST 1048576: true; the input reads as it did. -/
def fnExactSpanBackUptoRow : OpenClaim := { program := "ytdlemobjpiddjaa", sum := "38ef26ec2edac1667094a6b0cff92a75551c71822462afad16554ee3709c49b3", func := "loop.example/copiedtexts/laws.FnExactSpanBack", spec := "fnExactSpanBack", apart := false, narrowed := true }
def FnExactSpanBackUptoSaid : Prop := fnExactSpanBackUptoRow.holds Try.pinned (OpenSpec.upto fnExactSpanBackSpec)

/-- 'laws.FnExactSignCounts', WHERE WHAT IT READS IS OF BULK AT MOST 1048576: true; the input reads as it did. -/
def fnExactSignCountsUptoRow : OpenClaim := { program := "ytdlemobjpiddjaa", sum := "38ef26ec2edac1667094a6b0cff92a75551c71822462afad16554ee3709c49b3", func := "loop.example/copiedtexts/laws.FnExactSignCounts", spec := "fnExactSignCounts", apart := false, narrowed := true }
def FnExactSignCountsUptoSaid : Prop := fnExactSignCountsUptoRow.holds Try.pinned (OpenSpec.upto fnExactSignCountsSpec)

end Rows
end Go.Proofs.Ytdlemobjpiddjaa
