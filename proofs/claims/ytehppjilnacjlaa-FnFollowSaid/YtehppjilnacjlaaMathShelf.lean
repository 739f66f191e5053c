/-
  Plain mathematics of entries in order: fingerprint, text, place. No conditions.
-/
import Init.Data.List.Lemmas
import Init.Data.List.Pairwise
import Init.Omega
namespace Go.Proofs.Ytehppjilnacjlaa

/-- An entry: fingerprint, text, place. -/
abbrev En := Int × Int × Int

/-- Ahead of another one. -/
def enLt (x y : En) : Prop := x.1 < y.1 ∨ x.1 = y.1 ∧ (x.2.1 < y.2.1 ∨ x.2.1 = y.2.1 ∧ x.2.2 < y.2.2)
instance (x y : En) : Decidable (enLt x y) := by unfold enLt; infer_instance
theorem enLt_irrefl (x : En) : ¬ enLt x x := by unfold enLt; omega
theorem enLt_trans {x y z : En} (h : enLt x y) (k : enLt y z) : enLt x z := by unfold enLt at *; omega
theorem enLt_asymm {x y : En} (h : enLt x y) : ¬ enLt y x := by unfold enLt at *; omega
theorem enLt_three (x y : En) : enLt x y ∨ x = y ∨ enLt y x := by
  obtain ⟨a, b, c⟩ := x
  obtain ⟨d, e, f⟩ := y
  simp only [enLt, Prod.mk.injEq]
  omega

/-- What an entry of a shelf keeps. -/
def enOk (x : En) : Prop := 0 ≤ x.1 ∧ x.1 < 1000003 ∧ 0 ≤ x.2.1 ∧ 0 ≤ x.2.2
instance (x : En) : Decidable (enOk x) := by unfold enOk; infer_instance

/-- Entries are a shelf. -/
def shOk (l : List En) : Prop := (∀ x ∈ l, enOk x) ∧ l.Pairwise enLt

/-- The first entries are a shelf, told one by one. -/
def okTo (l : List En) (k : Nat) : Prop := ∀ i, i < k → ∀ h : i < l.length, enOk l[i] ∧ (0 < i → enLt (l[i - 1]'(by omega)) l[i])
theorem okTo_zero (l : List En) : okTo l 0 := fun i h => absurd h (by omega)
theorem okTo_next {l : List En} {k : Nat} (h : okTo l k) (hk : k < l.length) (h1 : enOk l[k]) (h2 : 0 < k → enLt (l[k - 1]'(by omega)) l[k]) : okTo l (k + 1) := fun i hi hl => by
  by_cases e : i = k
  · subst e; exact ⟨h1, h2⟩
  · exact h i (by omega) hl
theorem okTo_lt {l : List En} (h : okTo l l.length) (i j : Nat) (hij : i < j) (hj : j < l.length) : enLt (l[i]'(by omega)) l[j] := by
  induction j with
  | zero => omega
  | succ j ih =>
    have h1 := (h (j + 1) hj hj).2 (by omega)
    have h1 : enLt (l[j]'(by omega)) l[j + 1] := h1
    by_cases e : i = j
    · subst e; exact h1
    · exact enLt_trans (ih (by omega) (by omega)) h1
theorem shOk_of {l : List En} (h : okTo l l.length) : shOk l := by
  refine ⟨fun x hx => ?_, List.pairwise_iff_getElem.2 fun i j hi hj hij => okTo_lt h i j hij hj⟩
  obtain ⟨i, hi, rfl⟩ := List.getElem_of_mem hx
  exact (h i hi hi).1
theorem shOk_to {l : List En} (h : shOk l) : okTo l l.length := fun i hi hl =>
  ⟨h.1 _ (List.getElem_mem hl), fun h0 => List.pairwise_iff_getElem.1 h.2 (i - 1) i (by omega) hl (by omega)⟩
theorem shOk_not {l : List En} {k : Nat} (hk : k < l.length) (h : ¬ (enOk l[k] ∧ (0 < k → enLt (l[k - 1]'(by omega)) l[k]))) : ¬ shOk l := fun e => h (shOk_to e k hk hk)

/-- Rows in order with the same elements are the same. -/
theorem pairwise_unique {α : Type} {r : α → α → Prop} (hi : ∀ x, ¬ r x x) (ha : ∀ x y, r x y → ¬ r y x) : ∀ {l m : List α}, l.Pairwise r → m.Pairwise r → (∀ x, x ∈ l ↔ x ∈ m) → l = m
  | [], [], _, _, _ => rfl
  | [], y :: m, _, _, h => absurd ((h y).2 (by simp)) (by simp)
  | x :: l, [], _, _, h => absurd ((h x).1 (by simp)) (by simp)
  | x :: l, y :: m, hl, hm, h => by
    rw [List.pairwise_cons] at hl hm
    have hxy : x = y := by
      rcases List.mem_cons.1 ((h x).1 (by simp)) with e | e
      · exact e
      · rcases List.mem_cons.1 ((h y).2 (by simp)) with e2 | e2
        · exact e2.symm
        · exact absurd (hl.1 y e2) (ha _ _ (hm.1 x e))
    subst hxy
    congr 1
    refine pairwise_unique hi ha hl.2 hm.2 fun z => ?_
    constructor
    · intro hz
      rcases List.mem_cons.1 ((h z).1 (by simp [hz])) with e | e
      · subst e; exact absurd (hl.1 z hz) (hi z)
      · exact e
    · intro hz
      rcases List.mem_cons.1 ((h z).2 (by simp [hz])) with e | e
      · subst e; exact absurd (hm.1 z hz) (hi z)
      · exact e

/-- The row in order of these entries. -/
structure IsRow (l : List En) (S : List En) : Prop where
  up : S.Pairwise enLt
  mem : ∀ x, x ∈ S ↔ x ∈ l
theorem IsRow.unique {l S T : List En} (h : IsRow l S) (k : IsRow l T) : S = T := pairwise_unique enLt_irrefl (fun _ _ => enLt_asymm) h.up k.up fun x => (h.mem x).trans (k.mem x).symm

/-- How many entries are ahead. -/
def atE (x : En) : List En → Nat
  | [] => 0
  | y :: l => if enLt y x then atE x l + 1 else 0
/-- An entry put among others. -/
def putE (x : En) (l : List En) : List En := if l[atE x l]? = some x then l else l.take (atE x l) ++ x :: l.drop (atE x l)

theorem atE_le (x : En) (l : List En) : atE x l ≤ l.length := by
  induction l with
  | nil => exact Nat.le_refl _
  | cons y l ih => unfold atE; split <;> simp <;> omega
theorem atE_ahead (x : En) (l : List En) (i : Nat) (h : i < atE x l) (hi : i < l.length) : enLt l[i] x := by
  induction l generalizing i with
  | nil => simp at hi
  | cons y l ih =>
    unfold atE at h
    split at h
    · rename_i h2
      cases i with
      | zero => exact h2
      | succ i => exact ih i (by omega) (by simpa using hi)
    · omega
theorem atE_not (x : En) (l : List En) (h : atE x l < l.length) : ¬ enLt l[atE x l] x := by
  induction l with
  | nil => simp at h
  | cons y l ih =>
    by_cases h2 : enLt y x
    · have e : atE x (y :: l) = atE x l + 1 := by rw [atE, if_pos h2]
      simp only [e] at h ⊢
      simpa using ih (by simpa using h)
    · have e : atE x (y :: l) = 0 := by rw [atE, if_neg h2]
      simp only [e]
      exact h2
theorem atE_is (x : En) (l : List En) (k : Nat) (hk : k ≤ l.length) (h1 : ∀ i, i < k → ∀ h : i < l.length, enLt l[i] x) (h2 : ∀ h : k < l.length, ¬ enLt l[k] x) : atE x l = k := by
  rcases Nat.lt_trichotomy (atE x l) k with h | h | h
  · exact absurd (h1 _ h (by omega)) (atE_not x l (by omega))
  · exact h
  · exact absurd (atE_ahead x l k h (by have := atE_le x l; omega)) (h2 (by have := atE_le x l; omega))

theorem putE_row {l S : List En} (x : En) (h : IsRow l S) : IsRow (x :: l) (putE x S) := by
  unfold putE
  have hle := atE_le x S
  by_cases he : S[atE x S]? = some x
  · rw [if_pos he]
    refine ⟨h.up, fun y => ?_⟩
    rw [h.mem, List.mem_cons]
    refine ⟨.inr, fun hy => ?_⟩
    rcases hy with rfl | hy
    · exact (h.mem _).1 (List.mem_of_getElem? he)
    · exact hy
  · rw [if_neg he]
    have hb : ∀ y ∈ S.drop (atE x S), enLt x y := by
      intro y hy
      obtain ⟨i, hi, rfl⟩ := List.getElem_of_mem hy
      rw [List.length_drop] at hi
      rw [List.getElem_drop]
      have hlt : atE x S < S.length := by omega
      have h0 : enLt x S[atE x S] := by
        rcases enLt_three x S[atE x S] with h1 | h1 | h1
        · exact h1
        · exact absurd (by rw [List.getElem?_eq_getElem hlt, ← h1]) he
        · exact absurd h1 (atE_not x S hlt)
      by_cases e : i = 0
      · subst e; exact h0
      · exact enLt_trans h0 (List.pairwise_iff_getElem.1 h.up (atE x S) (atE x S + i) hlt (by omega) (by omega))
    have ha : ∀ y ∈ S.take (atE x S), enLt y x := by
      intro y hy
      obtain ⟨i, hi, rfl⟩ := List.getElem_of_mem hy
      rw [List.length_take] at hi
      rw [List.getElem_take]
      exact atE_ahead x S i (by omega) (by omega)
    refine ⟨?_, fun y => ?_⟩
    · rw [List.pairwise_append, List.pairwise_cons]
      refine ⟨h.up.take, ⟨hb, h.up.drop⟩, fun y hy z hz => ?_⟩
      rcases List.mem_cons.1 hz with rfl | hz
      · exact ha y hy
      · exact enLt_trans (ha y hy) (hb z hz)
    · have e : y ∈ S ↔ y ∈ S.take (atE x S) ∨ y ∈ S.drop (atE x S) := by rw [← List.mem_append, List.take_append_drop]
      rw [List.mem_append, List.mem_cons, List.mem_cons, ← h.mem, e]
      constructor
      · rintro (h1 | h1 | h1)
        · exact .inr (.inl h1)
        · exact .inl h1
        · exact .inr (.inr h1)
      · rintro (h1 | h1 | h1)
        · exact .inr (.inl h1)
        · exact .inl h1
        · exact .inr (.inr h1)

/-- Entries in order, each once. -/
def rowE : List En → List En
  | [] => []
  | x :: l => putE x (rowE l)
theorem rowE_is (l : List En) : IsRow l (rowE l) := by
  induction l with
  | nil => exact ⟨.nil, fun x => Iff.rfl⟩
  | cons x l ih => exact putE_row x ih
theorem rowE_of {l S : List En} (h : IsRow l S) : rowE l = S := (rowE_is l).unique h
theorem rowE_self {l : List En} (h : l.Pairwise enLt) : rowE l = l := rowE_of ⟨h, fun _ => Iff.rfl⟩
theorem rowE_mem (l : List En) (x : En) : x ∈ rowE l ↔ x ∈ l := (rowE_is l).mem x
theorem rowE_same {l m : List En} (h : ∀ x, x ∈ l ↔ x ∈ m) : rowE l = rowE m := rowE_of ⟨(rowE_is m).up, fun x => ((rowE_is m).mem x).trans (h x).symm⟩
theorem putE_snoc (x : En) (l : List En) : putE x (rowE l) = rowE (l ++ [x]) := by
  refine (rowE_of ?_).symm
  have h := putE_row x (rowE_is l)
  exact ⟨h.up, fun y => (h.mem y).trans (by simp [or_comm])⟩
theorem putE_len (x : En) (l : List En) : (putE x l).length ≤ l.length + 1 := by
  unfold putE
  split
  · omega
  · rw [List.length_append, List.length_cons, List.length_take, List.length_drop]; have := atE_le x l; omega
theorem rowE_len (l : List En) : (rowE l).length ≤ l.length := by
  induction l with
  | nil => exact Nat.le_refl _
  | cons x l ih => have := putE_len x (rowE l); rw [rowE, List.length_cons]; omega
theorem shOk_row {l : List En} (h : ∀ x ∈ l, enOk x) : shOk (rowE l) := ⟨fun x hx => h x ((rowE_mem l x).1 hx), (rowE_is l).up⟩

end Go.Proofs.Ytehppjilnacjlaa
