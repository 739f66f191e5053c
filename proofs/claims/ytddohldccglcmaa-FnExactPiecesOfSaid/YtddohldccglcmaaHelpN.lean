/-
  The contracts of the laws' helpers over slices of ints and of texts, in one form for all laws (numbers as Nat, worlds by Below); and the laws' copy of a slice of ints, and its room. Conditions: fewer than 2^38 elements.
-/
import Derived.Test.YtddohldccglcmaaHelpM
namespace Go.Proofs.Ytddohldccglcmaa
open Go.RowKit

theorem below_same {w w' : World} (h : w = w') : Below w.heap.size w w' := by subst h; exact Below.refl _ _
theorem below_drawn {w w' : World} (h : ∃ q, w' = w.drewN q) : Below w.heap.size w w' := by obtain ⟨q, rfl⟩ := h; exact below_drewN' (Below.refl _ _) q




/-- A slice of ints that reads as these numbers, in the words of the elder texts. -/
theorem CellsAt.ints {w : World} {a : Option Addr} {l : List Int} (h : CellsAt w a (intCells l)) : IntsAt w a l :=
  ⟨fun hne => by
    obtain ⟨b, o, ha, _, hc⟩ := h.spot (by simpa [intCells] using hne)
    refine ⟨b, o, ha, fun j hj => hc j _ ?_⟩
    simp [intCells, List.getD, List.getElem?_eq_getElem hj]⟩

theorem ints_len {w : World} {B : Nat} {e : TypeId} {a : Option Addr} {n c : Nat} {l : List Int} (h : w.ownsRow B e 1 (.slice a n c) n (intCells l)) : n = l.length := by
  have := h.1
  simp only [intCells, List.length_map] at this; omega







end Go.Proofs.Ytddohldccglcmaa
