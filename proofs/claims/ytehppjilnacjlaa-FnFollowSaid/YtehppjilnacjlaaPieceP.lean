/-
  The contracts of the model's functions l7Less and l7Put: a piece put among others in order, once. Condition: rows have at most 2^41 pieces.
-/
import Derived.Test.YtehppjilnacjlaaSide
import Derived.Test.YtehppjilnacjlaaMathPiece
import Derived.Test.YtehppjilnacjlaaTri
import Derived.Test.YtehppjilnacjlaaProg
import Derived.Lib.Hide
import Derived.Deep.QuietTactic
import Derived.Deep.RegionHeld3
import Derived.BigQuiet
import Derived.IntWalk
namespace Go.Proofs.Ytehppjilnacjlaa
open Go.RowKit

theorem Try.infoP7 : (Try.prog.info? 45).map (fun i => (i.zero, i.size, i.bytes)) = some (some (.agg #[.int .i64 0, .int .i64 0, .int .i64 0]), 3, 24) := by kernel_rfl
theorem enLt_iff7 (a b c d e f : Int) : enLt (a, b, c) (d, e, f) ↔ a < d ∨ a = d ∧ (b < e ∨ b = e ∧ c < f) := Iff.rfl
theorem below_ents7 {w wr : World} {B : Nat} (h : Below B w wr) {b o : Nat} (hb : b < B) {v : Value} (k : w.cell? ⟨b, o, none⟩ = some v) : wr.cell? ⟨b, o, none⟩ = some v := (h.cell (p := ⟨b, o, none⟩) hb).trans k

theorem cellsAt_lit7 (w : World) (e : TypeId) (cs : Array Value) (g : Nat) (hg : g = w.heap.size) : CellsAt (w.alloc (.cells cs e)) (some ⟨g, 0, none⟩) cs.toList := by
  subst hg
  refine ⟨fun _ => ⟨w.heap.size, 0, rfl, by simp, fun j u hj => ?_⟩⟩
  rw [cell_of_row _ w.heap.size (0 + j) _ e (0, 0) (heap_alloc_new w _)]
  simpa using hj
theorem cellsAt_rec37 (w : World) (e : TypeId) (a b c : Value) (g : Nat) (hg : g = w.heap.size) : CellsAt (w.alloc (.cells #[a, b, c] e)) (some ⟨g, 0, none⟩) [a, b, c] := cellsAt_lit7 w e #[a, b, c] g hg

theorem putE_at7 {l : List En} {X : En} {p : Nat} (hp : p ≤ l.length) (h1 : ∀ i, i < p → ∀ h : i < l.length, enLt l[i] X) (h2 : ∀ h : p < l.length, ¬ enLt l[p] X) : putE X l = if l[p]? = some X then l else l.take p ++ X :: l.drop p := by
  have e := atE_is X l p hp h1 h2
  rw [putE, e]




end Go.Proofs.Ytehppjilnacjlaa
