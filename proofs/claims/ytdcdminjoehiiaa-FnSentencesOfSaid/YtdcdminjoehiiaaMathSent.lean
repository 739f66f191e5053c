/-
  Plain mathematics of sentences: each word lies in one, each has a word at its end, and they are apart. No conditions.
-/
import Derived.Test.YtdcdminjoehiiaaMathWordsT
namespace Go.Proofs.Ytdcdminjoehiiaa

def SS.all (st : SS) : List (Nat × Nat) := st.out ++ st.cur.toList

structure SentInv (s : List UInt8) (k : Nat) (st : SS) : Prop where
  cover : ∀ i, i < k → gapB (at0 s i) = false → ∃ q ∈ st.all, q.1 ≤ i ∧ i < q.2
  each : ∀ q ∈ st.all, q.1 < q.2 ∧ q.2 ≤ k ∧ gapB (at0 s (q.2 - 1)) = false
  apart : st.all.Pairwise fun p q => p.2 < q.1
  ends : ∀ q ∈ st.out, q.2 < k ∧ gapB (at0 s q.2) = true
  open_ : ∀ q, st.cur = some q → q.2 = k ∨ gapB (at0 s q.2) = true

theorem sent_inv (s : List UInt8) (k : Nat) (hk : k ≤ s.length) : SentInv s k (stN s k) := by
  induction k with
  | zero => exact ⟨fun i hi => by omega, by simp [stN, SS.all], by simp [stN, SS.all], by simp [stN], by simp [stN]⟩
  | succ k ih =>
    have I := ih (by omega)
    cases he : endB (at0 s k) with
    | true =>
      have hg := endB_gap he
      have e : stN s (k + 1) = ⟨(stN s k).out ++ (stN s k).cur.toList, none⟩ := by rw [stN, SS.step, if_pos he]
      have ea : (stN s (k + 1)).all = (stN s k).all := by rw [e]; simp [SS.all]
      refine ⟨fun i hi hgi => ?_, fun q hq => ?_, by rw [ea]; exact I.apart, fun q hq => ?_, fun q hq => by rw [e] at hq; cases hq⟩
      · rw [ea]
        by_cases h : i = k
        · subst h; rw [hg] at hgi; cases hgi
        · exact I.cover i (by omega) hgi
      · rw [ea] at hq; have := I.each q hq; exact ⟨this.1, by omega, this.2.2⟩
      · have hq2 : q ∈ (stN s k).out ++ (stN s k).cur.toList := by rw [e] at hq; exact hq
        have h2 := (I.each q hq2).2.1
        rcases List.mem_append.1 hq2 with hq3 | hq3
        · have := I.ends q hq3; exact ⟨by omega, this.2⟩
        · have hc : (stN s k).cur = some q := by simpa using hq3
          refine ⟨by omega, ?_⟩
          rcases I.open_ q hc with h | h
          · rw [h]; exact hg
          · exact h
    | false =>
      cases hg : gapB (at0 s k) with
      | true =>
        rw [stN_gap he hg]
        refine ⟨fun i hi hgi => ?_, fun q hq => ?_, I.apart, fun q hq => ?_, fun q hq => ?_⟩
        · by_cases h : i = k
          · subst h; rw [hg] at hgi; cases hgi
          · exact I.cover i (by omega) hgi
        · have := I.each q hq; exact ⟨this.1, by omega, this.2.2⟩
        · have := I.ends q hq; exact ⟨by omega, this.2⟩
        · rcases I.open_ q hq with h | h
          · right; rw [h]; exact hg
          · exact .inr h
      | false =>
        cases hc : (stN s k).cur with
        | none =>
          obtain ⟨e1, e2⟩ := stN_new hg hc
          have ea : (stN s (k + 1)).all = (stN s k).out ++ [(k, k + 1)] := by rw [SS.all, e1, e2]; rfl
          have eb : (stN s k).all = (stN s k).out := by rw [SS.all, hc]; simp
          refine ⟨fun i hi hgi => ?_, fun q hq => ?_, ?_, fun q hq => ?_, fun q hq => ?_⟩
          · rw [ea]
            by_cases h : i = k
            · subst h; exact ⟨(i, i + 1), by simp, by omega, by omega⟩
            · obtain ⟨q, hq, h1⟩ := I.cover i (by omega) hgi
              rw [eb] at hq
              exact ⟨q, by simp [hq], h1⟩
          · rw [ea, List.mem_append, List.mem_singleton] at hq
            rcases hq with hq | rfl
            · have := I.each q (by rw [eb]; exact hq); exact ⟨this.1, by omega, this.2.2⟩
            · exact ⟨by omega, by omega, by simpa using hg⟩
          · rw [ea]
            refine List.pairwise_append.2 ⟨by rw [← eb]; exact I.apart, by simp, fun p hp q hq => ?_⟩
            rw [List.mem_singleton] at hq; subst hq
            exact (I.ends p hp).1
          · rw [e1] at hq; have := I.ends q hq; exact ⟨by omega, this.2⟩
          · rw [e2] at hq; injection hq with hq; subst hq; exact .inl rfl
        | some p =>
          obtain ⟨e1, e2⟩ := stN_on hg hc
          have ea : (stN s (k + 1)).all = (stN s k).out ++ [(p.1, k + 1)] := by rw [SS.all, e1, e2]; rfl
          have eb : (stN s k).all = (stN s k).out ++ [p] := by rw [SS.all, hc]; rfl
          have hp := I.each p (by rw [eb]; simp)
          refine ⟨fun i hi hgi => ?_, fun q hq => ?_, ?_, fun q hq => ?_, fun q hq => ?_⟩
          · rw [ea]
            by_cases h : i = k
            · subst h; exact ⟨(p.1, i + 1), by simp, by dsimp only; omega, by dsimp only; omega⟩
            · obtain ⟨q, hq, h1⟩ := I.cover i (by omega) hgi
              rw [eb, List.mem_append, List.mem_singleton] at hq
              rcases hq with hq | rfl
              · exact ⟨q, by simp [hq], h1⟩
              · exact ⟨(q.1, k + 1), by simp, h1.1, by dsimp only; omega⟩
          · rw [ea, List.mem_append, List.mem_singleton] at hq
            rcases hq with hq | rfl
            · have := I.each q (by rw [eb]; simp [hq]); exact ⟨this.1, by omega, this.2.2⟩
            · exact ⟨by dsimp only; omega, by dsimp only; omega, by simpa using hg⟩
          · rw [ea]
            have ha := I.apart
            rw [eb] at ha
            obtain ⟨h1, _, h3⟩ := List.pairwise_append.1 ha
            refine List.pairwise_append.2 ⟨h1, by simp, fun x hx q hq => ?_⟩
            rw [List.mem_singleton] at hq; subst hq
            exact h3 x hx p (by simp)
          · rw [e1] at hq; have := I.ends q hq; exact ⟨by omega, this.2⟩
          · rw [e2] at hq; injection hq with hq; subst hq; exact .inl rfl

theorem sent_end (s : List UInt8) (q : Nat × Nat) (h : q ∈ sentL s) : q.1 < q.2 ∧ q.2 ≤ s.length ∧ gapB (at0 s (q.2 - 1)) = false ∧ gapB (at0 s q.2) = true := by
  have I := sent_inv s s.length (Nat.le_refl _)
  have he := I.each q h
  refine ⟨he.1, he.2.1, he.2.2, ?_⟩
  rcases List.mem_append.1 h with h1 | h1
  · exact (I.ends q h1).2
  · rcases I.open_ q (by simpa using h1) with h2 | h2
    · rw [h2, at0_end s _ (Nat.le_refl _)]; exact gapB_zero
    · exact h2

/-- Each word lies in one sentence. -/
theorem word_in (s : List UInt8) (p : Nat × Nat) (hp : p ∈ wordsL s) : ∃ q ∈ sentL s, q.1 ≤ p.1 ∧ p.2 ≤ q.2 := by
  have hw := wordsL_all s p hp
  have I := sent_inv s s.length (Nat.le_refl _)
  obtain ⟨q, hq, h1, h2⟩ := I.cover p.1 (by omega) (begB_parts hw.2.2.1).1
  refine ⟨q, hq, h1, ?_⟩
  have hs := wEnd_spec s p.1 (by omega)
  have he := sent_end s q hq
  rcases Nat.lt_or_ge q.2 p.2 with h3 | h3
  · have := hs.2.2.2 q.2 (by omega) (by rw [← hw.2.2.2]; exact h3)
    rw [he.2.2.2] at this; cases this
  · exact h3

/-- Each sentence has a word at its end. -/
theorem word_last (s : List UInt8) (q : Nat × Nat) (hq : q ∈ sentL s) : ∃ p ∈ wordsL s, p.2 = q.2 := by
  have he := sent_end s q hq
  obtain ⟨j, h1, h2, h3, h4, h5⟩ := wordAt_yes s (q.2 - 1) (by omega) he.2.2.1
  have e : (wordsL s).getD j (0, 0) = (wordsL s)[j] := by simp [List.getD, h2]
  rw [e] at h3 h4
  have hm := List.getElem_mem h2
  have hw := wordsL_all s _ hm
  refine ⟨_, hm, ?_⟩
  have hs := wEnd_spec s ((wordsL s)[j]).1 (by omega)
  rcases Nat.lt_or_ge q.2 ((wordsL s)[j]).2 with h6 | h6
  · have := hs.2.2.2 q.2 (by omega) (by rw [← hw.2.2.2]; exact h6)
    rw [he.2.2.2] at this; cases this
  · omega

theorem sent_apart (s : List UInt8) : (sentL s).Pairwise fun p q => p.2 < q.1 := (sent_inv s s.length (Nat.le_refl _)).apart

/-- How many words end up to a place. -/
def upToW (s : List UInt8) (x : Nat) : Nat := ((wordsL s).filter fun p => decide (p.2 ≤ x)).length

theorem count_sorted {l : List (Nat × Nat)} (h : l.Pairwise fun p q => p.2 < q.2) (x : Nat) : ∀ i (hi : i < l.length), (l[i].2 ≤ x ↔ i < (l.filter fun p => decide (p.2 ≤ x)).length) := by
  induction l with
  | nil => intro i hi; simp at hi
  | cons p l ih =>
    obtain ⟨h1, h2⟩ := List.pairwise_cons.1 h
    intro i hi
    by_cases hp : p.2 ≤ x
    · rw [List.filter_cons_of_pos (by simpa using hp)]
      cases i with
      | zero => simpa using hp
      | succ i =>
        have := ih h2 i (by simpa using hi)
        simp only [List.getElem_cons_succ, List.length_cons]
        rw [this]; omega
    · have hn : (l.filter fun p => decide (p.2 ≤ x)) = [] := by
        rw [List.filter_eq_nil_iff]
        intro q hq
        have := h1 q hq
        simp; omega
      rw [List.filter_cons_of_neg (by simpa using hp), hn]
      cases i with
      | zero => simpa using hp
      | succ i =>
        have hi2 : i < l.length := by simpa using hi
        have := h1 _ (List.getElem_mem hi2)
        simp only [List.getElem_cons_succ, List.length_nil]
        omega

theorem words_ends (s : List UInt8) : (wordsL s).Pairwise fun p q => p.2 < q.2 := by
  refine List.Pairwise.imp_of_mem ?_ (wordsL_order s)
  intro p q hp hq h
  have := wordsL_all s q hq
  omega

theorem upToW_iff (s : List UInt8) (x i : Nat) (h : i < (wordsL s).length) : ((wordsL s)[i]).2 ≤ x ↔ i < upToW s x := count_sorted (words_ends s) x i h
theorem upToW_le (s : List UInt8) (x : Nat) : upToW s x ≤ (wordsL s).length := List.length_filter_le _ _

/-- How many words lie in the first sentences. -/
def headW (s : List UInt8) (k : Nat) : Nat := if k = 0 then 0 else upToW s (((sentL s).getD (k - 1) (0, 0)).2)

/-- Sentence k: its words are those from headW k to headW (k + 1), one at least, and each one stands in it. -/
theorem head_step (s : List UInt8) (k : Nat) (hk : k < (sentL s).length) : headW s k < headW s (k + 1) ∧ headW s (k + 1) ≤ (wordsL s).length ∧
    (∀ i (h : i < (wordsL s).length), headW s k ≤ i → (((wordsL s)[i]).2 ≤ ((sentL s)[k]).2 ↔ i < headW s (k + 1)) ∧ ((sentL s)[k]).1 ≤ ((wordsL s)[i]).1) ∧
    (∀ h : k + 1 < (sentL s).length, ((sentL s)[k]).2 < ((sentL s)[k + 1]).1) := by
  have hap := sent_apart s
  have hk1 : headW s (k + 1) = upToW s ((sentL s)[k]).2 := by simp [headW, List.getD, hk]
  have from_ : ∀ i (h : i < (wordsL s).length), headW s k ≤ i → ((sentL s)[k]).1 ≤ ((wordsL s)[i]).1 := by
    intro i h hi
    obtain ⟨q, hq, h1, h2⟩ := word_in s _ (List.getElem_mem h)
    obtain ⟨j, hj, rfl⟩ := List.getElem_of_mem hq
    rcases Nat.lt_or_ge j k with hjk | hjk
    · exfalso
      have hk0 : k ≠ 0 := by omega
      have hle : ((sentL s)[j]).2 ≤ ((sentL s)[k - 1]).2 := by
        by_cases e : j = k - 1
        · subst e; exact Nat.le_refl _
        · have h3 := List.pairwise_iff_getElem.1 hap j (k - 1) hj (by omega) (by omega)
          have h4 := sent_end s _ (List.getElem_mem (show k - 1 < (sentL s).length by omega))
          omega
      have h3 : headW s k = upToW s ((sentL s)[k - 1]).2 := by
        simp [headW, List.getD, hk0, show k - 1 < (sentL s).length by omega]
      have h4 := (upToW_iff s ((sentL s)[k - 1]).2 i h).1 (by omega)
      omega
    · by_cases e : j = k
      · subst e; exact h1
      · have h3 := List.pairwise_iff_getElem.1 hap k j hk hj (by omega)
        have h4 := sent_end s _ (List.getElem_mem hk)
        omega
  refine ⟨?_, by rw [hk1]; exact upToW_le _ _, fun i h hi => ⟨by rw [hk1]; exact upToW_iff s _ i h, from_ i h hi⟩, fun h => List.pairwise_iff_getElem.1 hap k (k + 1) hk h (by omega)⟩
  obtain ⟨p, hp, he⟩ := word_last s _ (List.getElem_mem hk)
  obtain ⟨i, hi, rfl⟩ := List.getElem_of_mem hp
  have h1 := (upToW_iff s ((sentL s)[k]).2 i hi).1 (by omega)
  rw [hk1]
  rcases Nat.lt_or_ge i (headW s k) with h2 | h2
  · exfalso
    by_cases hk0 : k = 0
    · subst hk0; simp [headW] at h2
    · have h3 : headW s k = upToW s ((sentL s)[k - 1]).2 := by
        simp [headW, List.getD, hk0, show k - 1 < (sentL s).length by omega]
      rw [h3] at h2
      have h4 := (upToW_iff s ((sentL s)[k - 1]).2 i hi).2 h2
      have h5 := List.pairwise_iff_getElem.1 hap (k - 1) k (by omega) hk (by omega)
      have h6 := sent_end s _ (List.getElem_mem hk)
      omega
  · omega

theorem head_all (s : List UInt8) : headW s (sentL s).length = (wordsL s).length := by
  have hap := sent_apart s
  by_cases h0 : (sentL s).length = 0
  · rw [h0]
    have : wordsL s = [] := by
      cases hw : wordsL s with
      | nil => rfl
      | cons p l =>
        obtain ⟨q, hq, _⟩ := word_in s p (by rw [hw]; simp)
        have := List.length_pos_of_mem hq
        omega
    rw [this]; rfl
  · have hl : (sentL s).length - 1 < (sentL s).length := by omega
    have h3 : headW s (sentL s).length = upToW s ((sentL s)[(sentL s).length - 1]).2 := by
      simp only [headW, if_neg h0, List.getD, List.getElem?_eq_getElem hl, Option.getD_some]
    have h4 := upToW_le s ((sentL s)[(sentL s).length - 1]).2
    rcases Nat.lt_or_ge (upToW s ((sentL s)[(sentL s).length - 1]).2) (wordsL s).length with h | h
    · exfalso
      have h5 := upToW_iff s ((sentL s)[(sentL s).length - 1]).2 _ h
      have h6 : ((wordsL s)[upToW s ((sentL s)[(sentL s).length - 1]).2]).2 ≤ ((sentL s)[(sentL s).length - 1]).2 := by
        obtain ⟨q, hq, h1, h2⟩ := word_in s _ (List.getElem_mem h)
        obtain ⟨j, hj, rfl⟩ := List.getElem_of_mem hq
        by_cases e : j = (sentL s).length - 1
        · subst e; exact h2
        · have h3 := List.pairwise_iff_getElem.1 hap j ((sentL s).length - 1) hj hl (by omega)
          have h4 := sent_end s _ (List.getElem_mem hl)
          omega
      have := h5.1 h6
      omega
    · omega

end Go.Proofs.Ytdcdminjoehiiaa
