/-
  No cell of these rows narrows 'for every input' (looked for: loops, veiled, ifaces, maps, wideKeys, modest, calm, conditions, laid).
  DERIVED. THE GIVEN ROWS OF THIS SEAT. 8 by the template 'for every input the law returns true; each argument reads behind the call as it read before'; 0 by the template 'total and deterministic' (their statements: YtdcdminjoehiiaaTotals.lean).
  GIVEN WITH THE SEED: the statements are not yours to turn. If you find one false, say at which input.
  Laid BY PROGRAM, IN A SANDBOX (cutbox-rows.mjs): the forced cells as the released guide's own fill.sh prints them over the translation 2b6bd37c65cfa32b… (all of the seat's roots in one cut). By AI agents, Wed Nov 11 2026. No macro, syntax, notation, axiom, sorry.
-/
import Derived.Test.YtdcdminjoehiiaaChecked
import GoSem.Claim
import GoSem.ClaimJoined
import GoSem.ClaimMapViews
import Derived.JoinedTies
import Derived.KernelRfl
namespace Go.Proofs.Ytdcdminjoehiiaa
/- THE CELL 'sum', in the pinned program and in every row, IS THE sha256 OF THE DUMP (.gsa) THAT YtdcdminjoehiiaaProg.lean LOADS. Nothing in Lean hashes anything: it is a label: what it is worth is what the hold of that sum in a sandbox is worth. -/
noncomputable def Try.pinned : Pinned := { name := "ytdcdminjoehiiaa", sum := "2b6bd37c65cfa32bc36772f071bb982019642a950d04197dc3b8d3e30a0cf85f", checked := Try.checked }
namespace Rows
def none {H : Type} : Left H := { results := [], args := [] }

/-- 'laws.FnWordsOf': WHATEVER THE INPUT: true; the input reads as it did. -/
def fnWordsOfSpec : ChangeSpec := { name := "fnWordsOf", fn := fun _ => fun
  | [d] => { results := [.lit (.bool true)], args := [d] }
  | _ => none }
def fnWordsOfRow : OpenClaim := { program := "ytdcdminjoehiiaa", sum := "2b6bd37c65cfa32bc36772f071bb982019642a950d04197dc3b8d3e30a0cf85f", func := "loop.example/copiedtexts/laws.FnWordsOf", spec := "fnWordsOf", apart := false }
def FnWordsOfSaid : Prop := fnWordsOfRow.holds Try.pinned (OpenSpec.ofChange fnWordsOfSpec)

/-- ITS FALSE NEIGHBOUR: 'it returns false'. Refute it at one input. -/
def fnWordsOfWrong : ChangeSpec := { name := "fnWordsOf", fn := fun _ => fun
  | [d] => { results := [.lit (.bool false)], args := [d] }
  | _ => none }
def FnWordsOfWrongFalsely : Prop := fnWordsOfRow.holds Try.pinned (OpenSpec.ofChange fnWordsOfWrong)

/-- 'laws.FnTextsOf': WHATEVER THE INPUT: true; the input reads as it did. -/
def fnTextsOfSpec : ChangeSpec := { name := "fnTextsOf", fn := fun _ => fun
  | [d] => { results := [.lit (.bool true)], args := [d] }
  | _ => none }
def fnTextsOfRow : OpenClaim := { program := "ytdcdminjoehiiaa", sum := "2b6bd37c65cfa32bc36772f071bb982019642a950d04197dc3b8d3e30a0cf85f", func := "loop.example/copiedtexts/laws.FnTextsOf", spec := "fnTextsOf", apart := false }
def FnTextsOfSaid : Prop := fnTextsOfRow.holds Try.pinned (OpenSpec.ofChange fnTextsOfSpec)

/-- ITS FALSE NEIGHBOUR: 'it returns false'. Refute it at one input. -/
def fnTextsOfWrong : ChangeSpec := { name := "fnTextsOf", fn := fun _ => fun
  | [d] => { results := [.lit (.bool false)], args := [d] }
  | _ => none }
def FnTextsOfWrongFalsely : Prop := fnTextsOfRow.holds Try.pinned (OpenSpec.ofChange fnTextsOfWrong)

/-- 'laws.FnJoined': WHATEVER THE INPUT: true; the input reads as it did. -/
def fnJoinedSpec : ChangeSpec := { name := "fnJoined", fn := fun _ => fun
  | [d] => { results := [.lit (.bool true)], args := [d] }
  | _ => none }
def fnJoinedRow : OpenClaim := { program := "ytdcdminjoehiiaa", sum := "2b6bd37c65cfa32bc36772f071bb982019642a950d04197dc3b8d3e30a0cf85f", func := "loop.example/copiedtexts/laws.FnJoined", spec := "fnJoined", apart := false }
def FnJoinedSaid : Prop := fnJoinedRow.holds Try.pinned (OpenSpec.ofChange fnJoinedSpec)

/-- ITS FALSE NEIGHBOUR: 'it returns false'. Refute it at one input. -/
def fnJoinedWrong : ChangeSpec := { name := "fnJoined", fn := fun _ => fun
  | [d] => { results := [.lit (.bool false)], args := [d] }
  | _ => none }
def FnJoinedWrongFalsely : Prop := fnJoinedRow.holds Try.pinned (OpenSpec.ofChange fnJoinedWrong)

/-- 'laws.FnJoinedWords': WHATEVER THE INPUT: true; the input reads as it did. -/
def fnJoinedWordsSpec : ChangeSpec := { name := "fnJoinedWords", fn := fun _ => fun
  | [d] => { results := [.lit (.bool true)], args := [d] }
  | _ => none }
def fnJoinedWordsRow : OpenClaim := { program := "ytdcdminjoehiiaa", sum := "2b6bd37c65cfa32bc36772f071bb982019642a950d04197dc3b8d3e30a0cf85f", func := "loop.example/copiedtexts/laws.FnJoinedWords", spec := "fnJoinedWords", apart := false }
def FnJoinedWordsSaid : Prop := fnJoinedWordsRow.holds Try.pinned (OpenSpec.ofChange fnJoinedWordsSpec)

/-- ITS FALSE NEIGHBOUR: 'it returns false'. Refute it at one input. -/
def fnJoinedWordsWrong : ChangeSpec := { name := "fnJoinedWords", fn := fun _ => fun
  | [d] => { results := [.lit (.bool false)], args := [d] }
  | _ => none }
def FnJoinedWordsWrongFalsely : Prop := fnJoinedWordsRow.holds Try.pinned (OpenSpec.ofChange fnJoinedWordsWrong)

/-- 'laws.FnSentencesOf': WHATEVER THE INPUT: true; the input reads as it did. -/
def fnSentencesOfSpec : ChangeSpec := { name := "fnSentencesOf", fn := fun _ => fun
  | [d] => { results := [.lit (.bool true)], args := [d] }
  | _ => none }
def fnSentencesOfRow : OpenClaim := { program := "ytdcdminjoehiiaa", sum := "2b6bd37c65cfa32bc36772f071bb982019642a950d04197dc3b8d3e30a0cf85f", func := "loop.example/copiedtexts/laws.FnSentencesOf", spec := "fnSentencesOf", apart := false }
def FnSentencesOfSaid : Prop := fnSentencesOfRow.holds Try.pinned (OpenSpec.ofChange fnSentencesOfSpec)

/-- ITS FALSE NEIGHBOUR: 'it returns false'. Refute it at one input. -/
def fnSentencesOfWrong : ChangeSpec := { name := "fnSentencesOf", fn := fun _ => fun
  | [d] => { results := [.lit (.bool false)], args := [d] }
  | _ => none }
def FnSentencesOfWrongFalsely : Prop := fnSentencesOfRow.holds Try.pinned (OpenSpec.ofChange fnSentencesOfWrong)

/-- 'laws.FnWordAt': WHATEVER THE INPUT: true; the input reads as it did. -/
def fnWordAtSpec : ChangeSpec := { name := "fnWordAt", fn := fun _ => fun
  | [d] => { results := [.lit (.bool true)], args := [d] }
  | _ => none }
def fnWordAtRow : OpenClaim := { program := "ytdcdminjoehiiaa", sum := "2b6bd37c65cfa32bc36772f071bb982019642a950d04197dc3b8d3e30a0cf85f", func := "loop.example/copiedtexts/laws.FnWordAt", spec := "fnWordAt", apart := false }
def FnWordAtSaid : Prop := fnWordAtRow.holds Try.pinned (OpenSpec.ofChange fnWordAtSpec)

/-- ITS FALSE NEIGHBOUR: 'it returns false'. Refute it at one input. -/
def fnWordAtWrong : ChangeSpec := { name := "fnWordAt", fn := fun _ => fun
  | [d] => { results := [.lit (.bool false)], args := [d] }
  | _ => none }
def FnWordAtWrongFalsely : Prop := fnWordAtRow.holds Try.pinned (OpenSpec.ofChange fnWordAtWrong)

/-- 'laws.FnWordCounts': WHATEVER THE INPUT: true; the input reads as it did. -/
def fnWordCountsSpec : ChangeSpec := { name := "fnWordCounts", fn := fun _ => fun
  | [d] => { results := [.lit (.bool true)], args := [d] }
  | _ => none }
def fnWordCountsRow : OpenClaim := { program := "ytdcdminjoehiiaa", sum := "2b6bd37c65cfa32bc36772f071bb982019642a950d04197dc3b8d3e30a0cf85f", func := "loop.example/copiedtexts/laws.FnWordCounts", spec := "fnWordCounts", recurses := true, apart := false }
def FnWordCountsSaid : Prop := fnWordCountsRow.holds Try.pinned (OpenSpec.ofChange fnWordCountsSpec)

/-- ITS FALSE NEIGHBOUR: 'it returns false'. Refute it at one input. -/
def fnWordCountsWrong : ChangeSpec := { name := "fnWordCounts", fn := fun _ => fun
  | [d] => { results := [.lit (.bool false)], args := [d] }
  | _ => none }
def FnWordCountsWrongFalsely : Prop := fnWordCountsRow.holds Try.pinned (OpenSpec.ofChange fnWordCountsWrong)

/-- 'laws.FnAnyWordsOf': WHATEVER THE INPUT: true; the input reads as it did. -/
def fnAnyWordsOfSpec : ChangeSpec := { name := "fnAnyWordsOf", fn := fun _ => fun
  | [d] => { results := [.lit (.bool true)], args := [d] }
  | _ => none }
def fnAnyWordsOfRow : OpenClaim := { program := "ytdcdminjoehiiaa", sum := "2b6bd37c65cfa32bc36772f071bb982019642a950d04197dc3b8d3e30a0cf85f", func := "loop.example/copiedtexts/laws.FnAnyWordsOf", spec := "fnAnyWordsOf", apart := false }
def FnAnyWordsOfSaid : Prop := fnAnyWordsOfRow.holds Try.pinned (OpenSpec.ofChange fnAnyWordsOfSpec)

/-- ITS FALSE NEIGHBOUR: 'it returns false'. Refute it at one input. -/
def fnAnyWordsOfWrong : ChangeSpec := { name := "fnAnyWordsOf", fn := fun _ => fun
  | [d] => { results := [.lit (.bool false)], args := [d] }
  | _ => none }
def FnAnyWordsOfWrongFalsely : Prop := fnAnyWordsOfRow.holds Try.pinned (OpenSpec.ofChange fnAnyWordsOfWrong)

/- THE SECOND FORM. 'bulk': how many values and letters a reading holds, each counted each time it is reached (what is shared counts as often as it is met; a slice's spare places count too). A statement '..UptoSaid' is the law's where the arguments, and the package variables that the reading takes, are together of bulk at most 1048576: NARROWER than '..Said'. Prove '..Said' where nothing that the law and all that it calls make is longer than what came in: it says more and counts as full. Else prove '..UptoSaid'. A law counts once. -/
mutual
def uptoBulk {H : Type} : DataW H → Nat
  | .lit (.string bytes) => bytes.length + 1
  | .lit _ => 1
  | .nil => 1
  | .ptr d => uptoBulk d + 1
  | .slice elems spare => uptoBulkAll elems + uptoBulkAll spare + 1
  | .agg parts => uptoBulkAll parts + 1
  | .iface _ d => uptoBulk d + 1
  | .map entries => uptoBulkEntries entries + 1
  | .held _ => 1
def uptoBulkAll {H : Type} : List (DataW H) → Nat
  | [] => 0
  | d :: r => uptoBulk d + uptoBulkAll r
def uptoBulkEntries {H : Type} : List (Lit × DataW H) → Nat
  | [] => 0
  | x :: r => uptoBulkEntry x + uptoBulkEntries r
def uptoBulkEntry {H : Type} : Lit × DataW H → Nat
  | (.string bytes, d) => bytes.length + uptoBulk d + 1
  | (_, d) => uptoBulk d + 1
 end
def uptoSmall : (H : Type) → List (DataW H) → Bool := fun _ ds => decide (uptoBulkAll ds ≤ 1048576)
def OpenSpec.upto (s : _root_.Go.ChangeSpec) : _root_.Go.OpenSpec := { _root_.Go.OpenSpec.ofChange s with cond := some uptoSmall }

/-- 'laws.FnWordsOf', WHERE WHAT IT READS IS OF BULK AT MOST 1048576: true; the input reads as it did. -/
def fnWordsOfUptoRow : OpenClaim := { program := "ytdcdminjoehiiaa", sum := "2b6bd37c65cfa32bc36772f071bb982019642a950d04197dc3b8d3e30a0cf85f", func := "loop.example/copiedtexts/laws.FnWordsOf", spec := "fnWordsOf", apart := false, narrowed := true }
def FnWordsOfUptoSaid : Prop := fnWordsOfUptoRow.holds Try.pinned (OpenSpec.upto fnWordsOfSpec)

/-- 'laws.FnTextsOf', WHERE WHAT IT READS IS OF BULK AT MOST 1048576: true; the input reads as it did. -/
def fnTextsOfUptoRow : OpenClaim := { program := "ytdcdminjoehiiaa", sum := "2b6bd37c65cfa32bc36772f071bb982019642a950d04197dc3b8d3e30a0cf85f", func := "loop.example/copiedtexts/laws.FnTextsOf", spec := "fnTextsOf", apart := false, narrowed := true }
def FnTextsOfUptoSaid : Prop := fnTextsOfUptoRow.holds Try.pinned (OpenSpec.upto fnTextsOfSpec)

/-- 'laws.FnJoined', WHERE WHAT IT READS IS OF BULK AT MOST 1048576: true; the input reads as it did. -/
def fnJoinedUptoRow : OpenClaim := { program := "ytdcdminjoehiiaa", sum := "2b6bd37c65cfa32bc36772f071bb982019642a950d04197dc3b8d3e30a0cf85f", func := "loop.example/copiedtexts/laws.FnJoined", spec := "fnJoined", apart := false, narrowed := true }
def FnJoinedUptoSaid : Prop := fnJoinedUptoRow.holds Try.pinned (OpenSpec.upto fnJoinedSpec)

/-- 'laws.FnJoinedWords', WHERE WHAT IT READS IS OF BULK AT MOST 1048576: true; the input reads as it did. -/
def fnJoinedWordsUptoRow : OpenClaim := { program := "ytdcdminjoehiiaa", sum := "2b6bd37c65cfa32bc36772f071bb982019642a950d04197dc3b8d3e30a0cf85f", func := "loop.example/copiedtexts/laws.FnJoinedWords", spec := "fnJoinedWords", apart := false, narrowed := true }
def FnJoinedWordsUptoSaid : Prop := fnJoinedWordsUptoRow.holds Try.pinned (OpenSpec.upto fnJoinedWordsSpec)

/-- 'laws.FnSentencesOf', WHERE WHAT IT READS IS OF BULK AT MOST 1048576: true; the input reads as it did. -/
def fnSentencesOfUptoRow : OpenClaim := { program := "ytdcdminjoehiiaa", sum := "2b6bd37c65cfa32bc36772f071bb982019642a950d04197dc3b8d3e30a0cf85f", func := "loop.example/copiedtexts/laws.FnSentencesOf", spec := "fnSentencesOf", apart := false, narrowed := true }
def FnSentencesOfUptoSaid : Prop := fnSentencesOfUptoRow.holds Try.pinned (OpenSpec.upto fnSentencesOfSpec)

/-- 'laws.FnWordAt', WHERE WHAT IT READS IS OF BULK AT MOST 1048576: true; the input reads as it did. -/
def fnWordAtUptoRow : OpenClaim := { program := "ytdcdminjoehiiaa", sum := "2b6bd37c65cfa32bc36772f071bb982019642a950d04197dc3b8d3e30a0cf85f", func := "loop.example/copiedtexts/laws.FnWordAt", spec := "fnWordAt", apart := false, narrowed := true }
def FnWordAtUptoSaid : Prop := fnWordAtUptoRow.holds Try.pinned (OpenSpec.upto fnWordAtSpec)

/-- 'laws.FnWordCounts', WHERE WHAT IT READS IS OF BULK AT MOST 1048576: true; the input reads as it did. -/
def fnWordCountsUptoRow : OpenClaim := { program := "ytdcdminjoehiiaa", sum := "2b6bd37c65cfa32bc36772f071bb982019642a950d04197dc3b8d3e30a0cf85f", func := "loop.example/copiedtexts/laws.FnWordCounts", spec := "fnWordCounts", recurses := true, apart := false, narrowed := true }
def FnWordCountsUptoSaid : Prop := fnWordCountsUptoRow.holds Try.pinned (OpenSpec.upto fnWordCountsSpec)

/-- 'laws.FnAnyWordsOf', WHERE WHAT IT READS IS OF BULK AT MOST 1048576: true; the input reads as it did. -/
def fnAnyWordsOfUptoRow : OpenClaim := { program := "ytdcdminjoehiiaa", sum := "2b6bd37c65cfa32bc36772f071bb982019642a950d04197dc3b8d3e30a0cf85f", func := "loop.example/copiedtexts/laws.FnAnyWordsOf", spec := "fnAnyWordsOf", apart := false, narrowed := true }
def FnAnyWordsOfUptoSaid : Prop := fnAnyWordsOfUptoRow.holds Try.pinned (OpenSpec.upto fnAnyWordsOfSpec)

end Rows
end Go.Proofs.Ytdcdminjoehiiaa
