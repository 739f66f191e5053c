/-
  Plain laws of shelves: joining, taking off, texts of a shelf, and pairs of entries and marks. No conditions.
-/
import Derived.Test.YtclblnkeakkdeaaShelfO
import Derived.Test.YtclblnkeakkdeaaTwins
namespace Go.Proofs.Ytclblnkeakkdeaa

theorem shOk_nil : shOk [] := ⟨by simp, .nil⟩
theorem shOk_joinL (A B : List En) : shOk (joinL5 A B) := by
  by_cases h : shOk A ∧ shOk B
  · rw [joinL5_ok h.1 h.2]
    exact shOk_row (fun x hx => by
      rcases List.mem_append.1 hx with h1 | h1
      · exact h.1.1 x h1
      · exact h.2.1 x h1)
  · rw [joinL5_not h]; exact shOk_nil
theorem shOk_loseL (L : List En) (d : Int) : shOk (loseL L d) := by
  by_cases h : shOk L
  · rw [loseL_ok h]
    exact ⟨fun x hx => h.1 x (List.mem_filter.1 hx).1, h.2.filter _⟩
  · rw [loseL_not h]; exact shOk_nil
theorem joinL_comm (A B : List En) : joinL5 A B = joinL5 B A := by
  by_cases h : shOk A ∧ shOk B
  · rw [joinL5_ok h.1 h.2, joinL5_ok h.2 h.1]
    exact rowE_same (fun x => by rw [List.mem_append, List.mem_append, or_comm])
  · rw [joinL5_not h, joinL5_not (fun h2 => h ⟨h2.2, h2.1⟩)]
theorem joinL_self {A : List En} (h : shOk A) : joinL5 A A = A := by
  rw [joinL5_ok h h]
  exact rowE_of ⟨h.2, fun x => by rw [List.mem_append, or_self]⟩
theorem joinL_nil {A : List En} (h : shOk A) : joinL5 A [] = A := by
  rw [joinL5_ok h shOk_nil, List.append_nil]
  exact rowE_self h.2
theorem joinL_assoc {A B C : List En} (hA : shOk A) (hB : shOk B) (hC : shOk C) : joinL5 (joinL5 A B) C = joinL5 A (joinL5 B C) := by
  rw [joinL5_ok (shOk_joinL A B) hC, joinL5_ok hA (shOk_joinL B C), joinL5_ok hA hB, joinL5_ok hB hC]
  refine rowE_same fun x => ?_
  rw [List.mem_append, List.mem_append, rowE_mem, rowE_mem, List.mem_append, List.mem_append, or_assoc]
theorem loseL_join {A B : List En} (hA : shOk A) (hB : shOk B) (d : Int) : loseL (joinL5 A B) d = joinL5 (loseL A d) (loseL B d) := by
  rw [loseL_ok (shOk_joinL A B), joinL5_ok (shOk_loseL A d) (shOk_loseL B d), joinL5_ok hA hB, loseL_ok hA, loseL_ok hB]
  refine (rowE_of ⟨(rowE_is (A ++ B)).up.filter _, fun x => ?_⟩).symm
  rw [List.mem_filter, rowE_mem, List.mem_append, List.mem_append, List.mem_filter, List.mem_filter]
  constructor
  · rintro ⟨h1 | h1, h2⟩
    · exact .inl ⟨h1, h2⟩
    · exact .inr ⟨h1, h2⟩
  · rintro (⟨h1, h2⟩ | ⟨h1, h2⟩)
    · exact ⟨.inl h1, h2⟩
    · exact ⟨.inr h1, h2⟩
theorem joinL_mem {A B : List En} (hA : shOk A) (hB : shOk B) (x : En) : x ∈ joinL5 A B ↔ x ∈ A ++ B := by rw [joinL5_ok hA hB, rowE_mem]

theorem loseL_count (L : List En) (d : Int) (h : shOk L) : (loseL L d).length + (L.filter (fun x => x.2.1 == d)).length = L.length := by
  rw [loseL_ok h]
  clear h
  induction L with
  | nil => rfl
  | cons x L ih =>
    rw [List.filter_cons, List.filter_cons, List.length_cons]
    cases hx : x.2.1 == d
    · simp only [Bool.not_false, if_true, Bool.false_eq_true, if_false, List.length_cons]; omega
    · simp only [Bool.not_true, if_true, Bool.false_eq_true, if_false, List.length_cons]; omega
theorem loseL_again (L : List En) (d : Int) : loseL (loseL L d) d = loseL L d := by
  rw [loseL_ok (shOk_loseL L d)]
  refine List.filter_eq_self.2 fun x hx => ?_
  by_cases h : shOk L
  · rw [loseL_ok h] at hx; exact (List.mem_filter.1 hx).2
  · rw [loseL_not h] at hx; simp at hx
theorem docs_lost (L : List En) (d : Int) : ¬ d ∈ docsL5 (loseL L d) := by
  rw [docsL5_ok (shOk_loseL L d), rowI_mem]
  intro h
  obtain ⟨x, hx, he⟩ := List.mem_map.1 h
  by_cases hL : shOk L
  · rw [loseL_ok hL] at hx
    have := (List.mem_filter.1 hx).2
    simp [he] at this
  · rw [loseL_not hL] at hx; simp at hx
theorem docs_has {L : List En} (h : shOk L) {i : Nat} (hi : i < L.length) : L[i].2.1 ∈ docsL5 L := by
  rw [docsL5_ok h, rowI_mem]
  exact List.mem_map.2 ⟨L[i], List.getElem_mem hi, rfl⟩
theorem docs_pair (L : List En) : (docsL5 L).Pairwise ltI := by
  by_cases h : shOk L
  · rw [docsL5_ok h]; exact (rowI_is _).up
  · rw [docsL5_not h]; exact .nil
theorem docs_fewer {L : List En} {d : Int} (hd : d ∈ docsL5 L) : (loseL L d).length < L.length := by
  by_cases h : shOk L
  · have h1 := loseL_count L d h
    rw [docsL5_ok h, rowI_mem] at hd
    obtain ⟨x, hx, he⟩ := List.mem_map.1 hd
    have h2 : 0 < (L.filter (fun x => x.2.1 == d)).length := List.length_pos_of_mem (List.mem_filter.2 ⟨hx, by simpa using he⟩)
    omega
  · rw [docsL5_not h] at hd; simp at hd

/-- The marks of the entries of a text. -/
def ownM (L : List En) (d : Int) : List (Int × Int) := (L.filter (fun x => x.2.1 == d)).map (fun x => (x.1, x.2.2))
theorem ownM_yes {L : List En} {d : Int} {k : Nat} (hk : k < L.length) (h : L[k].2.1 = d) : ownM (L.take (k + 1)) d = ownM (L.take k) d ++ [(L[k].1, L[k].2.2)] := by
  rw [ownM, ownM, filter_yes hk (by simpa using h), List.map_append]; rfl
theorem ownM_no {L : List En} {d : Int} {k : Nat} (hk : k < L.length) (h : ¬ L[k].2.1 = d) : ownM (L.take (k + 1)) d = ownM (L.take k) d := by
  rw [ownM, ownM, filter_no hk (by simpa using h)]
theorem ownM_len (L : List En) (d : Int) : (ownM L d).length ≤ L.length := by
  rw [ownM, List.length_map]; exact List.length_filter_le _ _

theorem rowT_cM (x : Int × Int) (M : List (Int × Int)) : (rowT x M).length = cM M x.1 := by
  rw [rowT, List.length_map, cM]
  congr 1
  exact List.filter_congr fun y _ => by rw [Bool.eq_iff_iff, beq_iff_eq, beq_iff_eq]; exact eq_comm
theorem twins_own (L : List En) (M : List (Int × Int)) (d : Int) : (twinsL (ownM L d) M).length = sD L M d := by
  unfold ownM sD twinsL
  induction L with
  | nil => rfl
  | cons x L ih =>
    rw [List.filter_cons]
    split
    · rw [List.map_cons, List.flatMap_cons, List.length_append, ih, List.map_cons, List.sum_cons, rowT_cM]
    · exact ih

end Go.Proofs.Ytclblnkeakkdeaa
