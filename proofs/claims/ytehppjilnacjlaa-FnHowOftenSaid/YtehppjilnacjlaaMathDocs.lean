/-
  Plain mathematics of numbers in order. No conditions.
-/
import Derived.Test.YtehppjilnacjlaaMathShelf
namespace Go.Proofs.Ytehppjilnacjlaa

/-- Ahead of another one. -/
def ltI (x y : Int) : Prop := x < y
instance (x y : Int) : Decidable (ltI x y) := by unfold ltI; infer_instance
theorem ltI_irrefl (x : Int) : ¬ ltI x x := by unfold ltI; omega
theorem ltI_trans {x y z : Int} (h : ltI x y) (k : ltI y z) : ltI x z := by unfold ltI at *; omega
theorem ltI_asymm {x y : Int} (h : ltI x y) : ¬ ltI y x := by unfold ltI at *; omega
theorem ltI_three (x y : Int) : ltI x y ∨ x = y ∨ ltI y x := by unfold ltI; omega

/-- The row in order of these numbers. -/
structure IsRowI (l : List Int) (S : List Int) : Prop where
  up : S.Pairwise ltI
  mem : ∀ x, x ∈ S ↔ x ∈ l
theorem IsRowI.unique {l S T : List Int} (h : IsRowI l S) (k : IsRowI l T) : S = T := pairwise_unique ltI_irrefl (fun _ _ => ltI_asymm) h.up k.up fun x => (h.mem x).trans (k.mem x).symm

/-- How many numbers are ahead. -/
def atI (x : Int) : List Int → Nat
  | [] => 0
  | y :: l => if ltI y x then atI x l + 1 else 0
/-- A number put among others. -/
def putI (x : Int) (l : List Int) : List Int := if l[atI x l]? = some x then l else l.take (atI x l) ++ x :: l.drop (atI x l)

theorem atI_le (x : Int) (l : List Int) : atI x l ≤ l.length := by
  induction l with
  | nil => exact Nat.le_refl _
  | cons y l ih => unfold atI; split <;> simp <;> omega
theorem atI_ahead (x : Int) (l : List Int) (i : Nat) (h : i < atI x l) (hi : i < l.length) : ltI l[i] x := by
  induction l generalizing i with
  | nil => simp at hi
  | cons y l ih =>
    unfold atI at h
    split at h
    · rename_i h2
      cases i with
      | zero => exact h2
      | succ i => exact ih i (by omega) (by simpa using hi)
    · omega
theorem atI_not (x : Int) (l : List Int) (h : atI x l < l.length) : ¬ ltI l[atI x l] x := by
  induction l with
  | nil => simp at h
  | cons y l ih =>
    by_cases h2 : ltI y x
    · have e : atI x (y :: l) = atI x l + 1 := by rw [atI, if_pos h2]
      simp only [e] at h ⊢
      simpa using ih (by simpa using h)
    · have e : atI x (y :: l) = 0 := by rw [atI, if_neg h2]
      simp only [e]
      exact h2
theorem atI_is (x : Int) (l : List Int) (k : Nat) (hk : k ≤ l.length) (h1 : ∀ i, i < k → ∀ h : i < l.length, ltI l[i] x) (h2 : ∀ h : k < l.length, ¬ ltI l[k] x) : atI x l = k := by
  rcases Nat.lt_trichotomy (atI x l) k with h | h | h
  · exact absurd (h1 _ h (by omega)) (atI_not x l (by omega))
  · exact h
  · exact absurd (atI_ahead x l k h (by have := atI_le x l; omega)) (h2 (by have := atI_le x l; omega))

theorem putI_row {l S : List Int} (x : Int) (h : IsRowI l S) : IsRowI (x :: l) (putI x S) := by
  unfold putI
  have hle := atI_le x S
  by_cases he : S[atI x S]? = some x
  · rw [if_pos he]
    refine ⟨h.up, fun y => ?_⟩
    rw [h.mem, List.mem_cons]
    refine ⟨.inr, fun hy => ?_⟩
    rcases hy with rfl | hy
    · exact (h.mem _).1 (List.mem_of_getElem? he)
    · exact hy
  · rw [if_neg he]
    have hb : ∀ y ∈ S.drop (atI x S), ltI x y := by
      intro y hy
      obtain ⟨i, hi, rfl⟩ := List.getElem_of_mem hy
      rw [List.length_drop] at hi
      rw [List.getElem_drop]
      have hlt : atI x S < S.length := by omega
      have h0 : ltI x S[atI x S] := by
        rcases ltI_three x S[atI x S] with h1 | h1 | h1
        · exact h1
        · exact absurd (by rw [List.getElem?_eq_getElem hlt, ← h1]) he
        · exact absurd h1 (atI_not x S hlt)
      by_cases e : i = 0
      · subst e; exact h0
      · exact ltI_trans h0 (List.pairwise_iff_getElem.1 h.up (atI x S) (atI x S + i) hlt (by omega) (by omega))
    have ha : ∀ y ∈ S.take (atI x S), ltI y x := by
      intro y hy
      obtain ⟨i, hi, rfl⟩ := List.getElem_of_mem hy
      rw [List.length_take] at hi
      rw [List.getElem_take]
      exact atI_ahead x S i (by omega) (by omega)
    refine ⟨?_, fun y => ?_⟩
    · rw [List.pairwise_append, List.pairwise_cons]
      refine ⟨h.up.take, ⟨hb, h.up.drop⟩, fun y hy z hz => ?_⟩
      rcases List.mem_cons.1 hz with rfl | hz
      · exact ha y hy
      · exact ltI_trans (ha y hy) (hb z hz)
    · have e : y ∈ S ↔ y ∈ S.take (atI x S) ∨ y ∈ S.drop (atI x S) := by rw [← List.mem_append, List.take_append_drop]
      rw [List.mem_append, List.mem_cons, List.mem_cons, ← h.mem, e]
      constructor
      · rintro (h1 | h1 | h1)
        · exact .inr (.inl h1)
        · exact .inl h1
        · exact .inr (.inr h1)
      · rintro (h1 | h1 | h1)
        · exact .inr (.inl h1)
        · exact .inl h1
        · exact .inr (.inr h1)

/-- Entries in order, each once. -/
def rowI : List Int → List Int
  | [] => []
  | x :: l => putI x (rowI l)
theorem rowI_is (l : List Int) : IsRowI l (rowI l) := by
  induction l with
  | nil => exact ⟨.nil, fun x => Iff.rfl⟩
  | cons x l ih => exact putI_row x ih
theorem rowI_of {l S : List Int} (h : IsRowI l S) : rowI l = S := (rowI_is l).unique h
theorem rowI_self {l : List Int} (h : l.Pairwise ltI) : rowI l = l := rowI_of ⟨h, fun _ => Iff.rfl⟩
theorem rowI_mem (l : List Int) (x : Int) : x ∈ rowI l ↔ x ∈ l := (rowI_is l).mem x
theorem rowI_same {l m : List Int} (h : ∀ x, x ∈ l ↔ x ∈ m) : rowI l = rowI m := rowI_of ⟨(rowI_is m).up, fun x => ((rowI_is m).mem x).trans (h x).symm⟩
theorem putI_snoc (x : Int) (l : List Int) : putI x (rowI l) = rowI (l ++ [x]) := by
  refine (rowI_of ?_).symm
  have h := putI_row x (rowI_is l)
  exact ⟨h.up, fun y => (h.mem y).trans (by simp [or_comm])⟩
theorem putI_len (x : Int) (l : List Int) : (putI x l).length ≤ l.length + 1 := by
  unfold putI
  split
  · omega
  · rw [List.length_append, List.length_cons, List.length_take, List.length_drop]; have := atI_le x l; omega
theorem rowI_len (l : List Int) : (rowI l).length ≤ l.length := by
  induction l with
  | nil => exact Nat.le_refl _
  | cons x l ih => have := putI_len x (rowI l); rw [rowI, List.length_cons]; omega

theorem putI_at {l : List Int} {X : Int} {p : Nat} (hp : p ≤ l.length) (h1 : ∀ i, i < p → ∀ h : i < l.length, l[i] < X) (h2 : ∀ h : p < l.length, ¬ l[p] < X) : putI X l = if l[p]? = some X then l else l.take p ++ X :: l.drop p := by
  have e := atI_is X l p hp h1 h2
  rw [putI, e]

end Go.Proofs.Ytehppjilnacjlaa
