/-
  The contract of the model's function ShelfDocs. Condition: rows have at most 2^21 entries. (Written by wip/tools/ch5_docs.py.)
-/
import Derived.Test.YtapombdkkcjodaaShelfE
import Derived.Test.YtapombdkkcjodaaMathDocs
namespace Go.Proofs.Ytapombdkkcjodaa
open Go.RowKit

open Classical in
/-- The texts of a shelf. -/
noncomputable def docsL5 (l : List En) : List Int := if shOk l then rowI (l.map fun x => x.2.1) else []
theorem docsL5_not {l : List En} (h : ¬ shOk l) : docsL5 l = [] := by rw [docsL5, if_neg h]
theorem docsL5_ok {l : List En} (h : shOk l) : docsL5 l = rowI (l.map fun x => x.2.1) := by rw [docsL5, if_pos h]

theorem ints_len5 {w : World} {B : Nat} {e : TypeId} {a : Option Addr} {n c : Nat} {l : List Int} (h : w.ownsRow B e 1 (.slice a n c) n (intCells l)) : n = l.length := by
  have := h.1
  simp only [intCells, List.length_map] at this; omega
theorem intCells_at5 {w : World} {b o : Nat} {L : List Int} (hc : CellsAt w (some ⟨b, o, none⟩) (intCells L)) (i : Nat) (x : Int) (hi : i < L.length) (hx : L[i] = x) : w.cell? ⟨b, o + i, none⟩ = some (.int .i64 x) := by
  obtain ⟨b', o', ha, _, h⟩ := hc.spot (fun e => by have := congrArg List.length e; simp [intCells] at this; rw [this] at hi; simp at hi)
  obtain ⟨rfl, rfl⟩ := (by simpa using ha : b = b' ∧ o = o')
  refine h i _ ?_
  simp [intCells, hi, hx]


end Go.Proofs.Ytapombdkkcjodaa
