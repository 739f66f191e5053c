/-
  The contracts of the laws' own helpers over slices of int: eqIntS (are they equal), markIntS (write ascending numbers), heldIntS (are they still there). Conditions: fewer than 2^40 elements; markIntS: the slice is the call's own.
-/
import Derived.Test.YtddohldccglcmaaProg
import Derived.Test.YtddohldccglcmaaSig
import Derived.Test.YtddohldccglcmaaOwnA
import Derived.WalkKit
import Derived.Lib.Hide
import Derived.Deep.QuietTactic
import Derived.BigQuiet
namespace Go.Proofs.Ytddohldccglcmaa
open Go.RowKit

theorem list_differs : ∀ (xs ys : List Int), xs.length = ys.length → xs ≠ ys → ∃ j, j < xs.length ∧ xs.getD j 0 ≠ ys.getD j 0 ∧ ∀ i, i < j → xs.getD i 0 = ys.getD i 0
  | [], [], _, h => absurd rfl h
  | x :: xs, y :: ys, hl, h => by
    by_cases hxy : x = y
    · subst hxy
      obtain ⟨j, hj, hd, hs⟩ := list_differs xs ys (by simpa using hl) (fun e => h (by rw [e]))
      refine ⟨j + 1, by simpa using hj, by simpa using hd, fun i hi => ?_⟩
      cases i with
      | zero => rfl
      | succ i => simpa using hs i (by omega)
    · exact ⟨0, by simp, by simpa using hxy, fun i hi => by omega⟩



/-- Ascending numbers from m on. -/
def marks (m : Int) : Nat → List Int
  | 0 => []
  | k + 1 => marks m k ++ [m + k]

theorem marks_len (m : Int) (k : Nat) : (marks m k).length = k := by
  induction k with
  | zero => rfl
  | succ k ih => simp [marks, ih]

theorem marks_get (m : Int) (n k : Nat) (h : k < n) : (marks m n).getD k 0 = m + k := by
  induction n with
  | zero => omega
  | succ n ih =>
    simp only [marks, List.getD]
    by_cases hk : k < n
    · rw [List.getElem?_append_left (by rw [marks_len]; exact hk)]
      exact ih hk
    · obtain rfl : k = n := by omega
      rw [List.getElem?_append_right (by rw [marks_len]; exact Nat.le_refl _), marks_len]
      simp

theorem marks_step (m : Int) (xs : List Int) (k : Nat) (h : k < xs.length) : (intCells (marks m k ++ xs.drop k)).set k (.int .i64 (m + k)) = intCells (marks m (k + 1) ++ xs.drop (k + 1)) := by
  have e : xs.drop k = xs[k] :: xs.drop (k + 1) := (List.drop_eq_getElem_cons h)
  have e2 : (marks m k ++ xs.drop k).set k (m + k) = marks m (k + 1) ++ xs.drop (k + 1) := by
    rw [List.set_append, if_neg (by rw [marks_len]; omega), marks_len, Nat.sub_self, e, List.set_cons_zero, marks, List.append_assoc]
    rfl
  rw [← e2, intCells, intCells, List.map_set]



end Go.Proofs.Ytddohldccglcmaa
