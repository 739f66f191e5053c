/-
  The contract of the model's function ShelfAsk. Condition: rows have at most 2^21 elements.
-/
import Derived.Test.YtapombdkkcjodaaShelfF
namespace Go.Proofs.Ytapombdkkcjodaa
open Go.RowKit


/-- How many of these entries are of a text; of all that marks find; and what is told of each text. -/
def cntF (F : List En) (d : Int) : Nat := (F.filter (fun x => x.2.1 == d)).length
noncomputable def cntM (l : List En) (M : List (Int × Int)) (d : Int) : Nat := (M.map fun m => cntF (findL5 l m.1) d).sum
noncomputable def askD (l : List En) (M : List (Int × Int)) (d : Int) : List (Int × Int) := if cntM l M d = 0 then [] else [(d, (cntM l M d : Int))]
noncomputable def askL5 (l : List En) (M : List (Int × Int)) : List (Int × Int) := (docsL5 l).flatMap (askD l M)

theorem cntF_yes {F : List En} {d : Int} {k : Nat} (hk : k < F.length) (h : F[k].2.1 = d) : cntF (F.take (k + 1)) d = cntF (F.take k) d + 1 := by
  rw [cntF, cntF, filter_yes hk (by simpa using h)]; simp
theorem cntF_no {F : List En} {d : Int} {k : Nat} (hk : k < F.length) (h : ¬ F[k].2.1 = d) : cntF (F.take (k + 1)) d = cntF (F.take k) d := by
  rw [cntF, cntF, filter_no hk (by simpa using h)]
theorem cntM_next {l : List En} {M : List (Int × Int)} {d : Int} {k : Nat} (hk : k < M.length) : cntM l (M.take (k + 1)) d = cntM l (M.take k) d + cntF (findL5 l M[k].1) d := by
  rw [cntM, cntM, List.take_succ_eq_append_getElem hk, List.map_append, List.sum_append]; simp
theorem findL5_len (l : List En) (p : Int) : (findL5 l p).length ≤ l.length := by
  by_cases h : shOk l
  · rw [findL5_ok h]; exact List.length_filter_le _ _
  · rw [findL5_not h]; exact Nat.zero_le _
theorem docsL5_len (l : List En) : (docsL5 l).length ≤ l.length := by
  by_cases h : shOk l
  · rw [docsL5_ok h]; have := rowI_len (l.map fun x => x.2.1); rwa [List.length_map] at this
  · rw [docsL5_not h]; exact Nat.zero_le _


end Go.Proofs.Ytapombdkkcjodaa
