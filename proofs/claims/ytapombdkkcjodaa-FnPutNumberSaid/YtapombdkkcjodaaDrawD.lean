/-
  The contracts of the model's draws of chapter 4: texts of at most 500 bytes, and small numbers; nothing that was there is written. Condition: the bytes can be read.
-/
import Derived.Test.YtapombdkkcjodaaRdShort
import Derived.OwnWalk
namespace Go.Proofs.Ytapombdkkcjodaa
open Go.RowKit

theorem Try.ulID : Try.prog.underlying 44 = some (.slice 3) := by kernel_rfl
theorem Try.infoID : (Try.prog.info? 3).map (fun i => (i.zero, i.size, i.bytes)) = some (some (.int .i64 0), 1, 8) := by kernel_rfl

theorem results_four {fn : Func} {t u v x : Tmp} (h : fn.results = #[.tmp t, .tmp u, .tmp v, .tmp x]) (tmps : Array Value) (P : Program) (w : World) :
    (results fn tmps).run P w = .ok (.tuple #[tmps.getD t undef, tmps.getD u undef, tmps.getD v undef, tmps.getD x undef]) w := by
  simp [results, h]

theorem below_rdD {w w1 w2 : World} (hb : Below w.heap.size w w1) (hs : w1.heap.size = w.heap.size + 1) (hg : w1.grownBy w2 (some w.heap.size)) : Below w.heap.size w w2 :=
  hb.grown hg (by omega) (fun k hk => by simp at hk; omega)








end Go.Proofs.Ytapombdkkcjodaa
