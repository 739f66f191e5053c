/-
  The contract of the model's function TwinsOf. Condition: rows have at most 2^20 marks.
-/
import Derived.Test.YteieolkpmjoohaaMarks
namespace Go.Proofs.Yteieolkpmjoohaa
open Go.RowKit

theorem Try.ulT4 : Try.prog.underlying 59 = some (.slice 85) := by kernel_rfl
theorem Try.infoT4 : (Try.prog.info? 85).map (fun i => (i.zero, i.size, i.bytes)) = some (some (.agg #[.int .i64 0, .int .i64 0]), 2, 16) := by kernel_rfl

/-- The twins of one mark, and of all. -/
def rowT (x : Int × Int) (B : List (Int × Int)) : List (Int × Int) := (B.filter fun y => x.1 == y.1).map fun y => (x.2, y.2)
def twinsL (A B : List (Int × Int)) : List (Int × Int) := A.flatMap fun x => rowT x B

theorem rowT_len (x : Int × Int) (B : List (Int × Int)) : (rowT x B).length ≤ B.length := by
  rw [rowT, List.length_map]; exact List.length_filter_le _ _
theorem twinsL_len (A B : List (Int × Int)) (m : Nat) (hm : B.length ≤ m) : (twinsL A B).length ≤ A.length * m := by
  induction A with
  | nil => simp [twinsL]
  | cons x A ih =>
    have h := rowT_len x B
    simp only [twinsL, List.flatMap_cons, List.length_append, List.length_cons, Nat.add_mul] at ih ⊢
    omega
theorem twinsL_next (A B : List (Int × Int)) (i : Nat) (hi : i < A.length) : twinsL (A.take (i + 1)) B = twinsL (A.take i) B ++ rowT A[i] B := by
  rw [List.take_succ_eq_append_getElem hi, twinsL, List.flatMap_append]; simp [twinsL]
theorem rowT_yes (x : Int × Int) (B : List (Int × Int)) (k : Nat) (hk : k < B.length) (h : x.1 = B[k].1) : rowT x (B.take (k + 1)) = rowT x (B.take k) ++ [(x.2, B[k].2)] := by
  rw [List.take_succ_eq_append_getElem hk, rowT, rowT, List.filter_append, List.map_append]; simp [h]
theorem rowT_no (x : Int × Int) (B : List (Int × Int)) (k : Nat) (hk : k < B.length) (h : ¬ x.1 = B[k].1) : rowT x (B.take (k + 1)) = rowT x (B.take k) := by
  rw [List.take_succ_eq_append_getElem hk, rowT, rowT, List.filter_append, List.map_append]; simp [h]


end Go.Proofs.Yteieolkpmjoohaa
