/-
  The contracts of the functions IsAlike, SameAlike and SpanBack (the program's and the model's). Condition: each text has at most 2^20 bytes.
-/
import Derived.Test.YtdcdminjoehiiaaAlike
import Derived.Deep.QuietTactic
import Derived.BigQuiet
import Derived.IntWalk
namespace Go.Proofs.Ytdcdminjoehiiaa
open Go.RowKit


theorem implSameAlike_any (s t : ByteArray) (w : World) (hs : s.size ≤ 1048576) (ht : t.size ≤ 1048576) :
    Calls Try.prog 24 #[.string s, .string t] w fun e w' => e = .returned (.bool ((alikeB s).toList == (alikeB t).toList)) ∧ Below w.heap.size w w' := by
  go_enter Try.func24, Try.ntmps24
  go_wp2_with fail
  refine (implAlike_any _ _ hs).mono ?_
  rintro e w1 ⟨a, n, c, rfl, hown, hb⟩
  go_wp2_with fail
  refine (implAlike_any _ _ ht).mono ?_
  rintro e w2 ⟨a2, n2, c2, rfl, hown2, hb2⟩
  go_wp2
  go_ret
  exact ⟨rfl, hb.trans (hb2.mono hb.size)⟩







end Go.Proofs.Ytdcdminjoehiiaa
