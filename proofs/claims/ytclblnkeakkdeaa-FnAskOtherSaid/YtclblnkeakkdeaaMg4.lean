/-
  Plain mathematics of marks that grow with a text. No conditions.
  Plain mathematics of the twins of marks. No conditions.
  Plain mathematics of what is found, in order: by the text, then by the piece. No conditions.
-/
import Derived.Test.YtclblnkeakkdeaaMg3
import Init.Data.List.Lemmas
import Init.Omega
import Derived.Test.YtclblnkeakkdeaaMg1
namespace Go.Proofs.Ytclblnkeakkdeaa

/-- One mark behind others, if it lies behind the last of them. -/
def stepP (f : Int) (out : List (Int × Int)) (x : Int × Int) : List (Int × Int) := if out = [] ∨ (out.getLastD (0, 0)).2 < x.2 + f then out ++ [(x.1, x.2 + f)] else out

theorem putAfter_pairs (g h : Nat → Int) (f : Nat) (old xs : List Nat) (he : ∀ x ∈ xs, h x = g (f + x)) :
    (xs.map fun x => (h x, (x : Int))).foldl (stepP f) (old.map fun x => (g x, (x : Int))) = (putAfter old (xs.map (f + ·))).map fun x => (g x, (x : Int)) := by
  induction xs generalizing old with
  | nil => rfl
  | cons x xs ih =>
    have hx := he x (by simp)
    have e : stepP f (old.map fun x => (g x, (x : Int))) (h x, (x : Int)) = (if old = [] ∨ old.getLastD 0 < f + x then old ++ [f + x] else old).map fun x => (g x, (x : Int)) := by
      unfold stepP
      by_cases h0 : old = []
      · subst h0; simp [hx]; omega
      · have hl : ((old.map fun x => (g x, (x : Int))).getLastD (0, 0)).2 = ((old.getLastD 0 : Nat) : Int) := by
          rw [List.getLastD_eq_getLast?, List.getLastD_eq_getLast?, List.getLast?_map, List.getLast?_eq_some_getLast h0]
          rfl
        simp only [hl, List.map_eq_nil_iff, h0, false_or]
        by_cases hc : old.getLastD 0 < f + x
        · rw [if_pos (by omega), if_pos hc, List.map_append, hx]
          simp; omega
        · rw [if_neg (by omega), if_neg hc]
    rw [List.map_cons, List.foldl_cons, e, List.map_cons]
    exact ih _ (fun y hy => he y (by simp [hy]))

/-- The marks of a text. -/
def marksL (s : List UInt8) (k w : Int) : List (Int × Int) := (marksAt s k w).map fun x => ((printsL s k).getD x 0, (x : Int))

theorem marksAt_lt (s : List UInt8) (k : Nat) (w : Int) (hk : 0 < k) (x : Nat) (hx : x ∈ marksAt s k w) : x + k ≤ s.length := by
  have h := chosenN_lt _ _ _ hx
  rw [printsN_len s k hk] at h
  omega

/-- Marks grow with the text. -/
theorem marksL_after (s t : List UInt8) (k w f : Nat) (hk : 0 < k) (hw : 0 < w) (hf : f = s.length + 1 - (k + w - 1)) :
    (marksL ((s ++ t).drop f) k w).foldl (stepP f) (marksL s k w) = marksL (s ++ t) k w ∧ ∃ r, marksL (s ++ t) k w = marksL s k w ++ r := by
  obtain ⟨h1, r, h2⟩ := marksAt_after s t k w f hk hw hf
  have eold : marksL s k w = (marksAt s k w).map fun x => ((printsL (s ++ t) k).getD x 0, (x : Int)) := by
    refine List.map_congr_left fun x hx => ?_
    have := marksAt_lt s k w hk x hx
    rw [printsN_get _ _ _ hk this, printsN_get _ _ _ hk (by rw [List.length_append]; omega), pieceL_append _ _ _ _ this]
  constructor
  · rw [eold]
    unfold marksL
    rw [putAfter_pairs, h1]
    intro x hx
    have := marksAt_lt _ k w hk x hx
    rw [List.length_drop] at this
    rw [printsN_get _ _ _ hk (by rw [List.length_drop]; omega), printsN_get _ _ _ hk (by omega), pieceL_drop]
  · refine ⟨r.map fun x => ((printsL (s ++ t) k).getD x 0, (x : Int)), ?_⟩
    rw [eold]
    unfold marksL
    rw [h2, List.map_append]

theorem marksL_bounds (s : List UInt8) (k w : Int) (x : Int × Int) (hx : x ∈ marksL s k w) : 0 ≤ x.2 ∧ x.2 ≤ s.length := by
  obtain ⟨n, hn, rfl⟩ := List.mem_map.1 hx
  have h1 := chosenN_lt _ _ _ hn
  have h2 := printsN_room s k
  show 0 ≤ (n : Int) ∧ (n : Int) ≤ _
  omega

theorem stepP_len (f : Int) (out : List (Int × Int)) (x : Int × Int) : (stepP f out x).length ≤ out.length + 1 := by
  unfold stepP; split
  · simp
  · omega
theorem foldP_next (f : Int) (old fresh : List (Int × Int)) (i : Nat) (hi : i < fresh.length) : (fresh.take (i + 1)).foldl (stepP f) old = stepP f ((fresh.take i).foldl (stepP f) old) fresh[i] := by
  rw [List.take_succ_eq_append_getElem hi, List.foldl_append]; rfl
theorem foldP_len (f : Int) (old fresh : List (Int × Int)) (i : Nat) (hi : i ≤ fresh.length) : ((fresh.take i).foldl (stepP f) old).length ≤ old.length + i := by
  induction i with
  | zero => simp
  | succ i ih =>
    rw [foldP_next f old fresh i (by omega)]
    have h1 := ih (by omega)
    have h2 := stepP_len f ((fresh.take i).foldl (stepP f) old) fresh[i]
    omega

end Go.Proofs.Ytclblnkeakkdeaa

namespace Go.Proofs.Ytclblnkeakkdeaa

/-- The twins of one mark, and of all. -/
def rowT (x : Int × Int) (B : List (Int × Int)) : List (Int × Int) := (B.filter fun y => x.1 == y.1).map fun y => (x.2, y.2)
def twinsL (A B : List (Int × Int)) : List (Int × Int) := A.flatMap fun x => rowT x B

theorem rowT_len (x : Int × Int) (B : List (Int × Int)) : (rowT x B).length ≤ B.length := by
  rw [rowT, List.length_map]; exact List.length_filter_le _ _
theorem twinsL_len (A B : List (Int × Int)) (m : Nat) (hm : B.length ≤ m) : (twinsL A B).length ≤ A.length * m := by
  induction A with
  | nil => simp [twinsL]
  | cons x A ih =>
    have h := rowT_len x B
    simp only [twinsL, List.flatMap_cons, List.length_append, List.length_cons, Nat.add_mul] at ih ⊢
    omega
theorem twinsL_next (A B : List (Int × Int)) (i : Nat) (hi : i < A.length) : twinsL (A.take (i + 1)) B = twinsL (A.take i) B ++ rowT A[i] B := by
  rw [List.take_succ_eq_append_getElem hi, twinsL, List.flatMap_append]; simp [twinsL]
theorem rowT_yes (x : Int × Int) (B : List (Int × Int)) (k : Nat) (hk : k < B.length) (h : x.1 = B[k].1) : rowT x (B.take (k + 1)) = rowT x (B.take k) ++ [(x.2, B[k].2)] := by
  rw [List.take_succ_eq_append_getElem hk, rowT, rowT, List.filter_append, List.map_append]; simp [h]
theorem rowT_no (x : Int × Int) (B : List (Int × Int)) (k : Nat) (hk : k < B.length) (h : ¬ x.1 = B[k].1) : rowT x (B.take (k + 1)) = rowT x (B.take k) := by
  rw [List.take_succ_eq_append_getElem hk, rowT, rowT, List.filter_append, List.map_append]; simp [h]

end Go.Proofs.Ytclblnkeakkdeaa

namespace Go.Proofs.Ytclblnkeakkdeaa

abbrev Fd := Int × En
def fdLt (x y : Fd) : Prop := x.1 < y.1 ∨ x.1 = y.1 ∧ enLt x.2 y.2
instance (x y : Fd) : Decidable (fdLt x y) := by unfold fdLt; infer_instance
theorem fdLt_irrefl (x : Fd) : ¬ fdLt x x := by
  rintro (h | ⟨_, h⟩)
  · omega
  · exact enLt_irrefl _ h
theorem fdLt_trans {x y z : Fd} (h : fdLt x y) (k : fdLt y z) : fdLt x z := by
  rcases h with h | ⟨h, h2⟩
  · rcases k with k | ⟨k, k2⟩
    · exact .inl (by omega)
    · exact .inl (by omega)
  · rcases k with k | ⟨k, k2⟩
    · exact .inl (by omega)
    · exact .inr ⟨by omega, enLt_trans h2 k2⟩
theorem fdLt_asymm {x y : Fd} (h : fdLt x y) : ¬ fdLt y x := fun k => fdLt_irrefl _ (fdLt_trans h k)
theorem fdLt_three (x y : Fd) : fdLt x y ∨ x = y ∨ fdLt y x := by
  obtain ⟨a, p⟩ := x
  obtain ⟨b, q⟩ := y
  rcases Int.lt_trichotomy a b with h | h | h
  · exact .inl (.inl h)
  · subst h
    rcases enLt_three p q with h | h | h
    · exact .inl (.inr ⟨rfl, h⟩)
    · exact .inr (.inl (by rw [h]))
    · exact .inr (.inr (.inr ⟨rfl, h⟩))
  · exact .inr (.inr (.inl h))

structure IsRowF (l : List Fd) (S : List Fd) : Prop where
  up : S.Pairwise fdLt
  mem : ∀ x, x ∈ S ↔ x ∈ l
theorem IsRowF.unique {l S T : List Fd} (h : IsRowF l S) (k : IsRowF l T) : S = T := pairwise_unique fdLt_irrefl (fun _ _ => fdLt_asymm) h.up k.up fun x => (h.mem x).trans (k.mem x).symm

/-- How much is ahead. -/
def atF (x : Fd) : List Fd → Nat
  | [] => 0
  | y :: l => if fdLt y x then atF x l + 1 else 0
/-- What is found put among others. -/
def putF (x : Fd) (l : List Fd) : List Fd := if l[atF x l]? = some x then l else l.take (atF x l) ++ x :: l.drop (atF x l)

theorem atF_le (x : Fd) (l : List Fd) : atF x l ≤ l.length := by
  induction l with
  | nil => exact Nat.le_refl _
  | cons y l ih => unfold atF; split <;> simp <;> omega
theorem atF_ahead (x : Fd) (l : List Fd) (i : Nat) (h : i < atF x l) (hi : i < l.length) : fdLt l[i] x := by
  induction l generalizing i with
  | nil => simp at hi
  | cons y l ih =>
    unfold atF at h
    split at h
    · rename_i h2
      cases i with
      | zero => exact h2
      | succ i => exact ih i (by omega) (by simpa using hi)
    · omega
theorem atF_not (x : Fd) (l : List Fd) (h : atF x l < l.length) : ¬ fdLt l[atF x l] x := by
  induction l with
  | nil => simp at h
  | cons y l ih =>
    by_cases h2 : fdLt y x
    · have e : atF x (y :: l) = atF x l + 1 := by rw [atF, if_pos h2]
      simp only [e] at h ⊢
      simpa using ih (by simpa using h)
    · have e : atF x (y :: l) = 0 := by rw [atF, if_neg h2]
      simp only [e]
      exact h2
theorem atF_is (x : Fd) (l : List Fd) (k : Nat) (hk : k ≤ l.length) (h1 : ∀ i, i < k → ∀ h : i < l.length, fdLt l[i] x) (h2 : ∀ h : k < l.length, ¬ fdLt l[k] x) : atF x l = k := by
  rcases Nat.lt_trichotomy (atF x l) k with h | h | h
  · exact absurd (h1 _ h (by omega)) (atF_not x l (by omega))
  · exact h
  · exact absurd (atF_ahead x l k h (by have := atF_le x l; omega)) (h2 (by have := atF_le x l; omega))

theorem putF_row {l S : List Fd} (x : Fd) (h : IsRowF l S) : IsRowF (x :: l) (putF x S) := by
  unfold putF
  have hle := atF_le x S
  by_cases he : S[atF x S]? = some x
  · rw [if_pos he]
    refine ⟨h.up, fun y => ?_⟩
    rw [h.mem, List.mem_cons]
    refine ⟨.inr, fun hy => ?_⟩
    rcases hy with rfl | hy
    · exact (h.mem _).1 (List.mem_of_getElem? he)
    · exact hy
  · rw [if_neg he]
    have hb : ∀ y ∈ S.drop (atF x S), fdLt x y := by
      intro y hy
      obtain ⟨i, hi, rfl⟩ := List.getElem_of_mem hy
      rw [List.length_drop] at hi
      rw [List.getElem_drop]
      have hlt : atF x S < S.length := by omega
      have h0 : fdLt x S[atF x S] := by
        rcases fdLt_three x S[atF x S] with h1 | h1 | h1
        · exact h1
        · exact absurd (by rw [List.getElem?_eq_getElem hlt, ← h1]) he
        · exact absurd h1 (atF_not x S hlt)
      by_cases e : i = 0
      · subst e; exact h0
      · exact fdLt_trans h0 (List.pairwise_iff_getElem.1 h.up (atF x S) (atF x S + i) hlt (by omega) (by omega))
    have ha : ∀ y ∈ S.take (atF x S), fdLt y x := by
      intro y hy
      obtain ⟨i, hi, rfl⟩ := List.getElem_of_mem hy
      rw [List.length_take] at hi
      rw [List.getElem_take]
      exact atF_ahead x S i (by omega) (by omega)
    refine ⟨?_, fun y => ?_⟩
    · rw [List.pairwise_append, List.pairwise_cons]
      refine ⟨h.up.take, ⟨hb, h.up.drop⟩, fun y hy z hz => ?_⟩
      rcases List.mem_cons.1 hz with rfl | hz
      · exact ha y hy
      · exact fdLt_trans (ha y hy) (hb z hz)
    · have e : y ∈ S ↔ y ∈ S.take (atF x S) ∨ y ∈ S.drop (atF x S) := by rw [← List.mem_append, List.take_append_drop]
      rw [List.mem_append, List.mem_cons, List.mem_cons, ← h.mem, e]
      constructor
      · rintro (h1 | h1 | h1)
        · exact .inr (.inl h1)
        · exact .inl h1
        · exact .inr (.inr h1)
      · rintro (h1 | h1 | h1)
        · exact .inr (.inl h1)
        · exact .inl h1
        · exact .inr (.inr h1)

/-- What is found, in order, each once. -/
def rowF : List Fd → List Fd
  | [] => []
  | x :: l => putF x (rowF l)
theorem rowF_is (l : List Fd) : IsRowF l (rowF l) := by
  induction l with
  | nil => exact ⟨.nil, fun x => Iff.rfl⟩
  | cons x l ih => exact putF_row x ih
theorem rowF_of {l S : List Fd} (h : IsRowF l S) : rowF l = S := (rowF_is l).unique h
theorem rowF_self {l : List Fd} (h : l.Pairwise fdLt) : rowF l = l := rowF_of ⟨h, fun _ => Iff.rfl⟩
theorem rowF_mem (l : List Fd) (x : Fd) : x ∈ rowF l ↔ x ∈ l := (rowF_is l).mem x
theorem rowF_same {l m : List Fd} (h : ∀ x, x ∈ l ↔ x ∈ m) : rowF l = rowF m := rowF_of ⟨(rowF_is m).up, fun x => ((rowF_is m).mem x).trans (h x).symm⟩
theorem putF_snoc (x : Fd) (l : List Fd) : putF x (rowF l) = rowF (l ++ [x]) := by
  refine (rowF_of ?_).symm
  have h := putF_row x (rowF_is l)
  exact ⟨h.up, fun y => (h.mem y).trans (by simp [or_comm])⟩
theorem putF_len (x : Fd) (l : List Fd) : (putF x l).length ≤ l.length + 1 := by
  unfold putF
  split
  · omega
  · rw [List.length_append, List.length_cons, List.length_take, List.length_drop]; have := atF_le x l; omega
theorem rowF_len (l : List Fd) : (rowF l).length ≤ l.length := by
  induction l with
  | nil => exact Nat.le_refl _
  | cons x l ih => have := putF_len x (rowF l); rw [rowF, List.length_cons]; omega

end Go.Proofs.Ytclblnkeakkdeaa
