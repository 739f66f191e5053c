/-
  Plain mathematics of counting texts, continued: what is counted is ascending, each at least once, and all together as many as there are. No conditions.
-/
import Derived.Test.YtdcdminjoehiiaaMathCounts
namespace Go.Proofs.Ytdcdminjoehiiaa

def AscC (l : List (ByteArray × Nat)) : Prop := l.Pairwise fun a b => ltB a.1 b.1 = true

theorem insC_mem {l : List (ByteArray × Nat)} {t : ByteArray} : ∀ q ∈ insC l t, q.1 = t ∨ ∃ p ∈ l, p.1 = q.1 := by
  induction l with
  | nil => intro q hq; simp [insC] at hq; subst hq; exact .inl rfl
  | cons p r ih =>
    obtain ⟨x, m⟩ := p
    intro q hq
    rcases cmp3 x t with hc | rfl | hc
    · rw [insC_lt hc] at hq
      rcases List.mem_cons.1 hq with rfl | hq
      · exact .inr ⟨(x, m), by simp, rfl⟩
      · rcases ih q hq with h | ⟨p, hp, h⟩
        · exact .inl h
        · exact .inr ⟨p, by simp [hp], h⟩
    · rw [insC_eq] at hq
      rcases List.mem_cons.1 hq with rfl | hq
      · exact .inl rfl
      · exact .inr ⟨q, by simp [hq], rfl⟩
    · rw [insC_gt hc] at hq
      rcases List.mem_cons.1 hq with rfl | hq
      · exact .inl rfl
      · exact .inr ⟨q, hq, rfl⟩

theorem insC_asc {l : List (ByteArray × Nat)} (h : AscC l) (t : ByteArray) : AscC (insC l t) := by
  induction l with
  | nil => simp [insC, AscC]
  | cons p r ih =>
    obtain ⟨x, m⟩ := p
    obtain ⟨h1, h2⟩ := List.pairwise_cons.1 h
    rcases cmp3 x t with hc | rfl | hc
    · rw [insC_lt hc]
      refine List.pairwise_cons.2 ⟨fun q hq => ?_, ih h2⟩
      rcases insC_mem q hq with he | ⟨p, hp, he⟩
      · rw [he]; exact hc
      · have := h1 p hp; rw [he] at this; exact this
    · rw [insC_eq]
      exact List.pairwise_cons.2 ⟨h1, h2⟩
    · rw [insC_gt hc]
      refine List.pairwise_cons.2 ⟨fun q hq => ?_, h⟩
      rcases List.mem_cons.1 hq with rfl | hq
      · exact hc
      · exact ltB_trans hc (h1 q hq)

theorem countC_asc (xs : List ByteArray) : AscC (countC xs) := by
  have key : ∀ (xs : List ByteArray) (l : List (ByteArray × Nat)), AscC l → AscC (xs.foldl insC l) := by
    intro xs
    induction xs with
    | nil => intro l h; exact h
    | cons x xs ih => intro l h; exact ih _ (insC_asc h x)
  exact key xs [] List.Pairwise.nil

def sumC (l : List (ByteArray × Nat)) : Nat := (l.map (·.2)).sum

theorem insC_sum (l : List (ByteArray × Nat)) (t : ByteArray) : sumC (insC l t) = sumC l + 1 := by
  induction l with
  | nil => rfl
  | cons p r ih =>
    obtain ⟨x, m⟩ := p
    rcases cmp3 x t with hc | rfl | hc
    · rw [insC_lt hc]; simp only [sumC, List.map_cons, List.sum_cons] at ih ⊢; omega
    · rw [insC_eq]; simp only [sumC, List.map_cons, List.sum_cons]; omega
    · rw [insC_gt hc]; simp only [sumC, List.map_cons, List.sum_cons]; omega

theorem countC_sum (xs : List ByteArray) : sumC (countC xs) = xs.length := by
  have key : ∀ (xs : List ByteArray) (l : List (ByteArray × Nat)), sumC (xs.foldl insC l) = sumC l + xs.length := by
    intro xs
    induction xs with
    | nil => intro l; simp
    | cons x xs ih => intro l; rw [List.foldl_cons, ih, insC_sum]; simp; omega
  have := key xs []
  simpa [countC, sumC] using this

theorem insC_pos {l : List (ByteArray × Nat)} (h : ∀ q ∈ l, 1 ≤ q.2) (t : ByteArray) : ∀ q ∈ insC l t, 1 ≤ q.2 := by
  induction l with
  | nil => intro q hq; simp [insC] at hq; subst hq; simp
  | cons p r ih =>
    obtain ⟨x, m⟩ := p
    have hr : ∀ q ∈ r, 1 ≤ q.2 := fun q hq => h q (by simp [hq])
    intro q hq
    rcases cmp3 x t with hc | rfl | hc
    · rw [insC_lt hc] at hq
      rcases List.mem_cons.1 hq with rfl | hq
      · exact h _ (by simp)
      · exact ih hr q hq
    · rw [insC_eq] at hq
      rcases List.mem_cons.1 hq with rfl | hq
      · simp
      · exact hr q hq
    · rw [insC_gt hc] at hq
      rcases List.mem_cons.1 hq with rfl | hq
      · simp
      · exact h q hq

theorem countC_pos (xs : List ByteArray) : ∀ q ∈ countC xs, 1 ≤ q.2 := by
  have key : ∀ (xs : List ByteArray) (l : List (ByteArray × Nat)), (∀ q ∈ l, 1 ≤ q.2) → ∀ q ∈ xs.foldl insC l, 1 ≤ q.2 := by
    intro xs
    induction xs with
    | nil => intro l h; exact h
    | cons x xs ih => intro l h; exact ih _ (insC_pos h x)
  exact key xs [] (by simp)

theorem sumC_take (l : List (ByteArray × Nat)) (k : Nat) (h : k < l.length) : sumC (l.take (k + 1)) = sumC (l.take k) + l[k].2 := by
  rw [List.take_succ_eq_append_getElem h, sumC, List.map_append, List.sum_append, sumC]; simp
theorem sumC_take_le (l : List (ByteArray × Nat)) (k : Nat) : sumC (l.take k) ≤ sumC l := by
  have e : l = l.take k ++ l.drop k := (List.take_append_drop k l).symm
  have h : sumC l = sumC (l.take k) + sumC (l.drop k) := by
    conv => lhs; rw [e]
    rw [sumC, List.map_append, List.sum_append]; rfl
  omega
theorem asc_get {l : List (ByteArray × Nat)} (h : AscC l) (k : Nat) (hk : k + 1 < l.length) : ltB l[k].1 l[k + 1].1 = true := List.pairwise_iff_getElem.1 h k (k + 1) (by omega) hk (by omega)

end Go.Proofs.Ytdcdminjoehiiaa
