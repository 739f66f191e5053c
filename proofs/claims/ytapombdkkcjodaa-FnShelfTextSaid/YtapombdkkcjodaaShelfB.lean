/-
  The contracts of the model's functions ShelfLose and ShelfFind. Condition: rows have at most 2^22 entries.
-/
import Derived.Test.YtapombdkkcjodaaShelf
namespace Go.Proofs.Ytapombdkkcjodaa
open Go.RowKit

open Classical in
/-- A shelf without the entries of a text, and its entries with a fingerprint. -/
noncomputable def loseL (l : List En) (d : Int) : List En := if shOk l then l.filter (fun x => !(x.2.1 == d)) else []
open Classical in
noncomputable def findL5 (l : List En) (p : Int) : List En := if shOk l then l.filter (fun x => x.1 == p) else []

theorem loseL_not {l : List En} (h : ¬ shOk l) (d : Int) : loseL l d = [] := by rw [loseL, if_neg h]
theorem loseL_ok {l : List En} (h : shOk l) (d : Int) : loseL l d = l.filter (fun x => !(x.2.1 == d)) := by rw [loseL, if_pos h]
theorem findL5_not {l : List En} (h : ¬ shOk l) (p : Int) : findL5 l p = [] := by rw [findL5, if_neg h]
theorem findL5_ok {l : List En} (h : shOk l) (p : Int) : findL5 l p = l.filter (fun x => x.1 == p) := by rw [findL5, if_pos h]

theorem filter_yes {P : En → Bool} {l : List En} {k : Nat} (hk : k < l.length) (h : P l[k] = true) : (l.take (k + 1)).filter P = (l.take k).filter P ++ [l[k]] := by
  rw [List.take_succ_eq_append_getElem hk, List.filter_append]; simp [h]
theorem filter_no {P : En → Bool} {l : List En} {k : Nat} (hk : k < l.length) (h : P l[k] = false) : (l.take (k + 1)).filter P = (l.take k).filter P := by
  rw [List.take_succ_eq_append_getElem hk, List.filter_append]; simp [h]
theorem filter_run {P : En → Bool} {l : List En} {s e : Nat} (hse : s ≤ e) (he : e ≤ l.length) (h1 : ∀ i (h : i < l.length), i < s → P l[i] = false) (h2 : ∀ i (h : i < l.length), s ≤ i → i < e → P l[i] = true) (h3 : ∀ i (h : i < l.length), e ≤ i → P l[i] = false) :
    l.filter P = (l.drop s).take (e - s) := by
  have e1 : l = l.take s ++ ((l.drop s).take (e - s) ++ l.drop e) := by
    have h4 : (l.drop s).drop (e - s) = l.drop e := by rw [List.drop_drop]; congr 1; omega
    rw [← h4, List.take_append_drop, List.take_append_drop]
  have f1 : (l.take s).filter P = [] := by
    rw [List.filter_eq_nil_iff]
    intro x hx
    obtain ⟨i, hi, rfl⟩ := List.getElem_of_mem hx
    rw [List.length_take] at hi
    rw [List.getElem_take, h1 i (by omega) (by omega)]
    decide
  have f2 : ((l.drop s).take (e - s)).filter P = (l.drop s).take (e - s) := by
    rw [List.filter_eq_self]
    intro x hx
    obtain ⟨i, hi, rfl⟩ := List.getElem_of_mem hx
    rw [List.length_take, List.length_drop] at hi
    rw [List.getElem_take, List.getElem_drop]
    exact h2 (s + i) (by omega) (by omega) (by omega)
  have f3 : (l.drop e).filter P = [] := by
    rw [List.filter_eq_nil_iff]
    intro x hx
    obtain ⟨i, hi, rfl⟩ := List.getElem_of_mem hx
    rw [List.length_drop] at hi
    rw [List.getElem_drop, h3 (e + i) (by omega) (by omega)]
    decide
  have : (l.take s ++ ((l.drop s).take (e - s) ++ l.drop e)).filter P = (l.drop s).take (e - s) := by
    rw [List.filter_append, List.filter_append, f1, f2, f3]; simp
  rw [← e1] at this
  exact this
theorem shOk_prints {l : List En} (h : shOk l) (i j : Nat) (hij : i ≤ j) (hj : j < l.length) : (l[i]'(by omega)).1 ≤ l[j].1 := by
  by_cases e : i = j
  · subst e; exact Int.le_refl _
  · have h1 := List.pairwise_iff_getElem.1 h.2 i j (by omega) hj (by omega)
    unfold enLt at h1
    omega



end Go.Proofs.Ytapombdkkcjodaa
