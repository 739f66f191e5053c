/-
  Plain mathematics of the twins of marks. No conditions.
-/
import Init.Data.List.Lemmas
import Init.Omega
namespace Go.Proofs.Ytclblnkeakkdeaa

/-- The twins of one mark, and of all. -/
def rowT (x : Int × Int) (B : List (Int × Int)) : List (Int × Int) := (B.filter fun y => x.1 == y.1).map fun y => (x.2, y.2)
def twinsL (A B : List (Int × Int)) : List (Int × Int) := A.flatMap fun x => rowT x B

theorem rowT_len (x : Int × Int) (B : List (Int × Int)) : (rowT x B).length ≤ B.length := by
  rw [rowT, List.length_map]; exact List.length_filter_le _ _
theorem twinsL_len (A B : List (Int × Int)) (m : Nat) (hm : B.length ≤ m) : (twinsL A B).length ≤ A.length * m := by
  induction A with
  | nil => simp [twinsL]
  | cons x A ih =>
    have h := rowT_len x B
    simp only [twinsL, List.flatMap_cons, List.length_append, List.length_cons, Nat.add_mul] at ih ⊢
    omega
theorem twinsL_next (A B : List (Int × Int)) (i : Nat) (hi : i < A.length) : twinsL (A.take (i + 1)) B = twinsL (A.take i) B ++ rowT A[i] B := by
  rw [List.take_succ_eq_append_getElem hi, twinsL, List.flatMap_append]; simp [twinsL]
theorem rowT_yes (x : Int × Int) (B : List (Int × Int)) (k : Nat) (hk : k < B.length) (h : x.1 = B[k].1) : rowT x (B.take (k + 1)) = rowT x (B.take k) ++ [(x.2, B[k].2)] := by
  rw [List.take_succ_eq_append_getElem hk, rowT, rowT, List.filter_append, List.map_append]; simp [h]
theorem rowT_no (x : Int × Int) (B : List (Int × Int)) (k : Nat) (hk : k < B.length) (h : ¬ x.1 = B[k].1) : rowT x (B.take (k + 1)) = rowT x (B.take k) := by
  rw [List.take_succ_eq_append_getElem hk, rowT, rowT, List.filter_append, List.map_append]; simp [h]

end Go.Proofs.Ytclblnkeakkdeaa
