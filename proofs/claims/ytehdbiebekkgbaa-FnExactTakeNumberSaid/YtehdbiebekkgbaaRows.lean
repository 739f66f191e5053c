/-
  No cell of these rows narrows 'for every input' (looked for: loops, veiled, ifaces, maps, wideKeys, modest, calm, conditions, laid).
  DERIVED. THE GIVEN ROWS OF THIS SEAT. 4 by the template 'for every input the law returns true; each argument reads behind the call as it read before'; 0 by the template 'total and deterministic' (their statements: YtehdbiebekkgbaaTotals.lean).
  GIVEN WITH THE SEED: the statements are not yours to turn. If you find one false, say at which input.
  Laid BY PROGRAM, IN A SANDBOX (cutbox-rows.mjs): the forced cells as the released guide's own fill.sh prints them over the translation 79f0c7b5f9e0cc82… (all of the seat's roots in one cut). By AI agents, Wed Nov 11 2026. No macro, syntax, notation, axiom, sorry.
-/
import Derived.Test.YtehdbiebekkgbaaChecked
import GoSem.Claim
import GoSem.ClaimJoined
import GoSem.ClaimMapViews
import Derived.JoinedTies
import Derived.KernelRfl
namespace Go.Proofs.Ytehdbiebekkgbaa
/- THE CELL 'sum', in the pinned program and in every row, IS THE sha256 OF THE DUMP (.gsa) THAT YtehdbiebekkgbaaProg.lean LOADS. Nothing in Lean hashes anything: it is a label: what it is worth is what the hold of that sum in a sandbox is worth. -/
noncomputable def Try.pinned : Pinned := { name := "ytehdbiebekkgbaa", sum := "79f0c7b5f9e0cc8215f0690c2729d6494a3edbe58938ac1eb1db0bf4d14f023d", checked := Try.checked }
namespace Rows
def none {H : Type} : Left H := { results := [], args := [] }

/-- 'laws.FnExactPutNumber': WHATEVER THE INPUT: true; the input reads as it did. -/
def fnExactPutNumberSpec : ChangeSpec := { name := "fnExactPutNumber", fn := fun _ => fun
  | [d] => { results := [.lit (.bool true)], args := [d] }
  | _ => none }
def fnExactPutNumberRow : OpenClaim := { program := "ytehdbiebekkgbaa", sum := "79f0c7b5f9e0cc8215f0690c2729d6494a3edbe58938ac1eb1db0bf4d14f023d", func := "loop.example/copiedtexts/laws.FnExactPutNumber", spec := "fnExactPutNumber", apart := false }
def FnExactPutNumberSaid : Prop := fnExactPutNumberRow.holds Try.pinned (OpenSpec.ofChange fnExactPutNumberSpec)

/-- ITS FALSE NEIGHBOUR: 'it returns false'. Refute it at one input. -/
def fnExactPutNumberWrong : ChangeSpec := { name := "fnExactPutNumber", fn := fun _ => fun
  | [d] => { results := [.lit (.bool false)], args := [d] }
  | _ => none }
def FnExactPutNumberWrongFalsely : Prop := fnExactPutNumberRow.holds Try.pinned (OpenSpec.ofChange fnExactPutNumberWrong)

/-- 'laws.FnExactTakeNumber': WHATEVER THE INPUT: true; the input reads as it did. -/
def fnExactTakeNumberSpec : ChangeSpec := { name := "fnExactTakeNumber", fn := fun _ => fun
  | [d1, d2] => { results := [.lit (.bool true)], args := [d1, d2] }
  | _ => none }
def fnExactTakeNumberRow : OpenClaim := { program := "ytehdbiebekkgbaa", sum := "79f0c7b5f9e0cc8215f0690c2729d6494a3edbe58938ac1eb1db0bf4d14f023d", func := "loop.example/copiedtexts/laws.FnExactTakeNumber", spec := "fnExactTakeNumber", apart := false }
def FnExactTakeNumberSaid : Prop := fnExactTakeNumberRow.holds Try.pinned (OpenSpec.ofChange fnExactTakeNumberSpec)

/-- ITS FALSE NEIGHBOUR: 'it returns false'. Refute it at one input. -/
def fnExactTakeNumberWrong : ChangeSpec := { name := "fnExactTakeNumber", fn := fun _ => fun
  | [d1, d2] => { results := [.lit (.bool false)], args := [d1, d2] }
  | _ => none }
def FnExactTakeNumberWrongFalsely : Prop := fnExactTakeNumberRow.holds Try.pinned (OpenSpec.ofChange fnExactTakeNumberWrong)

/-- 'laws.FnExactShelfText': WHATEVER THE INPUT: true; the input reads as it did. -/
def fnExactShelfTextSpec : ChangeSpec := { name := "fnExactShelfText", fn := fun _ => fun
  | [d] => { results := [.lit (.bool true)], args := [d] }
  | _ => none }
def fnExactShelfTextRow : OpenClaim := { program := "ytehdbiebekkgbaa", sum := "79f0c7b5f9e0cc8215f0690c2729d6494a3edbe58938ac1eb1db0bf4d14f023d", func := "loop.example/copiedtexts/laws.FnExactShelfText", spec := "fnExactShelfText", apart := false }
def FnExactShelfTextSaid : Prop := fnExactShelfTextRow.holds Try.pinned (OpenSpec.ofChange fnExactShelfTextSpec)

/-- ITS FALSE NEIGHBOUR: 'it returns false'. Refute it at one input. -/
def fnExactShelfTextWrong : ChangeSpec := { name := "fnExactShelfText", fn := fun _ => fun
  | [d] => { results := [.lit (.bool false)], args := [d] }
  | _ => none }
def FnExactShelfTextWrongFalsely : Prop := fnExactShelfTextRow.holds Try.pinned (OpenSpec.ofChange fnExactShelfTextWrong)

/-- 'laws.FnExactReadShelf': WHATEVER THE INPUT: true; the input reads as it did. -/
def fnExactReadShelfSpec : ChangeSpec := { name := "fnExactReadShelf", fn := fun _ => fun
  | [d] => { results := [.lit (.bool true)], args := [d] }
  | _ => none }
def fnExactReadShelfRow : OpenClaim := { program := "ytehdbiebekkgbaa", sum := "79f0c7b5f9e0cc8215f0690c2729d6494a3edbe58938ac1eb1db0bf4d14f023d", func := "loop.example/copiedtexts/laws.FnExactReadShelf", spec := "fnExactReadShelf", apart := false }
def FnExactReadShelfSaid : Prop := fnExactReadShelfRow.holds Try.pinned (OpenSpec.ofChange fnExactReadShelfSpec)

/-- ITS FALSE NEIGHBOUR: 'it returns false'. Refute it at one input. -/
def fnExactReadShelfWrong : ChangeSpec := { name := "fnExactReadShelf", fn := fun _ => fun
  | [d] => { results := [.lit (.bool false)], args := [d] }
  | _ => none }
def FnExactReadShelfWrongFalsely : Prop := fnExactReadShelfRow.holds Try.pinned (OpenSpec.ofChange fnExactReadShelfWrong)

/- THE SECOND FORM. 'bulk': how many values and letters a reading holds, each counted each time it is reached (what is shared counts as often as it is met; a slice's spare places count too). A statement '..UptoSaid' is the law's where the arguments, and the package variables that the reading takes, are together of bulk at most 1048576: NARROWER than '..Said'. Prove '..Said' where nothing that the law and all that it calls make is longer than what came in: it says more and counts as full. Else prove '..UptoSaid'. A law counts once. -/
mutual
def uptoBulk {H : Type} : DataW H → Nat
  | .lit (.string bytes) => bytes.length + 1
  | .lit _ => 1
  | .nil => 1
  | .ptr d => uptoBulk d + 1
  | .slice elems spare => uptoBulkAll elems + uptoBulkAll spare + 1
  | .agg parts => uptoBulkAll parts + 1
  | .iface _ d => uptoBulk d + 1
  | .map entries => uptoBulkEntries entries + 1
  | .held _ => 1
def uptoBulkAll {H : Type} : List (DataW H) → Nat
  | [] => 0
  | d :: r => uptoBulk d + uptoBulkAll r
def uptoBulkEntries {H : Type} : List (Lit × DataW H) → Nat
  | [] => 0
  | x :: r => uptoBulkEntry x + uptoBulkEntries r
def uptoBulkEntry {H : Type} : Lit × DataW H → Nat
  | (.string bytes, d) => bytes.length + uptoBulk d + 1
  | (_, d) => uptoBulk d + 1
 end
def uptoSmall : (H : Type) → List (DataW H) → Bool := fun _ ds => decide (uptoBulkAll ds ≤ 1048576)
def OpenSpec.upto (s : _root_.Go.ChangeSpec) : _root_.Go.OpenSpec := { _root_.Go.OpenSpec.ofChange s with cond := some uptoSmall }

/-- 'laws.FnExactPutNumber', WHERE WHAT IT READS IS OF BULK AT MOST 1048576: true; the input reads as it did. -/
def fnExactPutNumberUptoRow : OpenClaim := { program := "ytehdbiebekkgbaa", sum := "79f0c7b5f9e0cc8215f0690c2729d6494a3edbe58938ac1eb1db0bf4d14f023d", func := "loop.example/copiedtexts/laws.FnExactPutNumber", spec := "fnExactPutNumber", apart := false, narrowed := true }
def FnExactPutNumberUptoSaid : Prop := fnExactPutNumberUptoRow.holds Try.pinned (OpenSpec.upto fnExactPutNumberSpec)

/-- 'laws.FnExactTakeNumber', WHERE WHAT IT READS IS OF BULK AT MOST 1048576: true; the input reads as it did. -/
def fnExactTakeNumberUptoRow : OpenClaim := { program := "ytehdbiebekkgbaa", sum := "79f0c7b5f9e0cc8215f0690c2729d6494a3edbe58938ac1eb1db0bf4d14f023d", func := "loop.example/copiedtexts/laws.FnExactTakeNumber", spec := "fnExactTakeNumber", apart := false, narrowed := true }
def FnExactTakeNumberUptoSaid : Prop := fnExactTakeNumberUptoRow.holds Try.pinned (OpenSpec.upto fnExactTakeNumberSpec)

/-- 'laws.FnExactShelfText', WHERE WHAT IT READS IS OF BULK AT MOST 1048576: true; the input reads as it did. -/
def fnExactShelfTextUptoRow : OpenClaim := { program := "ytehdbiebekkgbaa", sum := "79f0c7b5f9e0cc8215f0690c2729d6494a3edbe58938ac1eb1db0bf4d14f023d", func := "loop.example/copiedtexts/laws.FnExactShelfText", spec := "fnExactShelfText", apart := false, narrowed := true }
def FnExactShelfTextUptoSaid : Prop := fnExactShelfTextUptoRow.holds Try.pinned (OpenSpec.upto fnExactShelfTextSpec)

/-- 'laws.FnExactReadShelf', WHERE WHAT IT READS IS OF BULK AT MOST 1048576: true; the input reads as it did. -/
def fnExactReadShelfUptoRow : OpenClaim := { program := "ytehdbiebekkgbaa", sum := "79f0c7b5f9e0cc8215f0690c2729d6494a3edbe58938ac1eb1db0bf4d14f023d", func := "loop.example/copiedtexts/laws.FnExactReadShelf", spec := "fnExactReadShelf", apart := false, narrowed := true }
def FnExactReadShelfUptoSaid : Prop := fnExactReadShelfUptoRow.holds Try.pinned (OpenSpec.upto fnExactReadShelfSpec)

end Rows
end Go.Proofs.Ytehdbiebekkgbaa
