/-
  The contracts of the laws' helpers over slices of ints and of texts, in one form for all laws (numbers as Nat, worlds by Below); and the laws' copy of a slice of ints, and its room. Conditions: fewer than 2^38 elements.
-/
import Derived.Test.YtnjiooljoekhmaaHelpM
namespace Go.Proofs.Ytnjiooljoekhmaa
open Go.RowKit

theorem below_same {w w' : World} (h : w = w') : Below w.heap.size w w' := by subst h; exact Below.refl _ _
theorem below_drawn {w w' : World} (h : ∃ q, w' = w.drewN q) : Below w.heap.size w w' := by obtain ⟨q, rfl⟩ := h; exact below_drewN' (Below.refl _ _) q




/-- A slice of ints that reads as these numbers, in the words of the elder texts. -/
theorem CellsAt.ints {w : World} {a : Option Addr} {l : List Int} (h : CellsAt w a (intCells l)) : IntsAt w a l :=
  ⟨fun hne => by
    obtain ⟨b, o, ha, _, hc⟩ := h.spot (by simpa [intCells] using hne)
    refine ⟨b, o, ha, fun j hj => hc j _ ?_⟩
    simp [intCells, List.getD, List.getElem?_eq_getElem hj]⟩

theorem ints_len {w : World} {B : Nat} {e : TypeId} {a : Option Addr} {n c : Nat} {l : List Int} (h : w.ownsRow B e 1 (.slice a n c) n (intCells l)) : n = l.length := by
  have := h.1
  simp only [intCells, List.length_map] at this; omega

theorem eqIntS_b (a b : Option Addr) (n c d : Nat) (l : List Int) (w : World) (hn : n = l.length) (hl : n < 274877906944) (h1 : CellsAt w a (intCells l)) (h2 : CellsAt w b (intCells l)) :
    Calls Try.prog 24 #[.slice a n c, .slice b n d] w fun e w' => e = .returned (.bool true) ∧ Below w.heap.size w w' := by
  subst hn
  exact (eqIntS_same a b c d l w (by omega) h1.ints h2.ints).mono fun _ _ h => ⟨h.1, below_drawn h.2⟩

theorem markIntS_z (B : Nat) (a : Option Addr) (n c : Nat) (l : List Int) (z : Int) (m : Nat) (w : World) (hown : w.ownsRow B 3 1 (.slice a n c) n (intCells l)) (hz : z = m) (hn : n < 68719476736) (_h0 : 0 < m) (hm : m < 274877906944) :
    Calls Try.prog 25 #[.slice a n c, .int .i64 z] w fun e w' => e = .returned (.int .i64 ((m + n * 1 : Nat) : Int)) ∧ w'.ownsRow B 3 1 (.slice a n c) n (intCells (marks m n)) ∧ w.grownBy w' (Value.ownBlock (.slice a n c)) := by
  subst hz
  refine (markIntS_any B a n c l m w hown (by omega) (by omega) (by omega)).mono fun _ _ h => ⟨h.1.trans (ret_int (by omega)), h.2⟩

theorem heldIntS_z (a : Option Addr) (n c : Nat) (z : Int) (m : Nat) (w : World) (hat : CellsAt w a (intCells (marks m n))) (hz : z = m) (hn : n < 68719476736) (_h0 : 0 < m) (hm : m < 274877906944) :
    Calls Try.prog 26 #[.slice a n c, .int .i64 z] w fun e w' => e = .returned (.int .i64 ((m + n * 1 : Nat) : Int)) ∧ Below w.heap.size w w' := by
  subst hz
  refine (heldIntS_any a n c m w hat.ints (by omega) (by omega) (by omega)).mono fun _ _ h => ⟨h.1.trans (ret_int (by omega)), below_same h.2⟩




end Go.Proofs.Ytnjiooljoekhmaa
