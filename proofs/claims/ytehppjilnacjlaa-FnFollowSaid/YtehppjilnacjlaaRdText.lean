/-
  The contracts of the model's draws of words, gaps and texts: they return short strings, and write nothing but the reader's own place. Condition: the reader is one.
-/
import Derived.Test.YtehppjilnacjlaaRd
namespace Go.Proofs.Ytehppjilnacjlaa
open Go.RowKit

/-- A row that was laid just ahead of a step of the reader is there behind it. -/
theorem laid_row {w w2 : World} {o : Obj} {g : Nat} (hg : (w.alloc o).grownBy w2 (some g)) (hlt : g < w.heap.size) : w2.heap[w.heap.size]? = some o :=
  (hg.block w.heap.size (by simp) (by simp; omega)).trans (heap_alloc_new w o)

theorem rd_alloc {w : World} {g : Nat} {a : Option Addr} {n c B : Nat} (h : RdAt w g a n c B) (o : Obj) : RdAt (w.alloc o) g a n c B :=
  h.kept (fun k hk => Below.heap_alloc w o k (Nat.lt_of_le_of_lt hk h.lt))



theorem size_append (a b : ByteArray) : (a ++ b).size = a.size + b.size := by simp

/-- The loop and the end of l20Text, from whatever text it begins with. -/
theorem extract_size (t : ByteArray) (k : Nat) : (t.extract 0 k).size ≤ t.size := by simp; omega


end Go.Proofs.Ytehppjilnacjlaa
