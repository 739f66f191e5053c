/-
  Plain mathematics of counting texts: the order of their bytes, sorted rows, merging, and counting by putting each one in its place. No conditions.
-/
import Derived.Test.YtdcdminjoehiiaaMem
import Derived.Sort.Walk0
namespace Go.Proofs.Ytdcdminjoehiiaa

/-- Does a text come ahead of another one? -/
def ltB (a b : ByteArray) : Bool := Op.bytesLess a.toList b.toList
/-- Are two texts the same? -/
def eqB (a b : ByteArray) : Bool := a.toList == b.toList

theorem toList_inj {a b : ByteArray} (h : a.toList = b.toList) : a = b := by
  rw [ByteArray.toList_eq, ByteArray.toList_eq] at h
  exact ByteArray.ext (Array.toList_inj.1 h)

theorem eqB_iff {a b : ByteArray} : eqB a b = true ↔ a = b := by
  rw [eqB, beq_iff_eq]
  exact ⟨toList_inj, fun h => by rw [h]⟩
theorem eqB_self (a : ByteArray) : eqB a a = true := eqB_iff.2 rfl
theorem eqB_no {a b : ByteArray} (h : a ≠ b) : eqB a b = false := by
  cases hh : eqB a b with
  | false => rfl
  | true => exact absurd (eqB_iff.1 hh) h

theorem ltB_iff {a b : ByteArray} : ltB a b = true ↔ a.toList < b.toList := by
  rw [ltB, bytesLess_eq, decide_eq_true_iff]

theorem ltB_irrefl (a : ByteArray) : ltB a a = false := by
  cases h : ltB a a with
  | false => rfl
  | true => exact absurd (ltB_iff.1 h) (List.lt_irrefl _)
theorem ltB_trans {a b c : ByteArray} (h1 : ltB a b = true) (h2 : ltB b c = true) : ltB a c = true :=
  ltB_iff.2 (List.lt_trans (ltB_iff.1 h1) (ltB_iff.1 h2))
theorem ltB_tri {a b : ByteArray} (h1 : ltB a b = false) (h2 : ltB b a = false) : a = b := by
  apply toList_inj
  have g1 : ¬ a.toList < b.toList := fun h => by rw [ltB_iff.2 h] at h1; cases h1
  have g2 : ¬ b.toList < a.toList := fun h => by rw [ltB_iff.2 h] at h2; cases h2
  exact List.le_antisymm g2 g1
theorem ltB_asymm {a b : ByteArray} (h : ltB a b = true) : ltB b a = false := by
  cases hh : ltB b a with
  | false => rfl
  | true => have := ltB_trans h hh; rw [ltB_irrefl] at this; cases this
theorem ltB_ne {a b : ByteArray} (h : ltB a b = true) : a ≠ b := fun e => by subst e; rw [ltB_irrefl] at h; cases h

/-- One text more is counted, in its place. -/
def insC : List (ByteArray × Nat) → ByteArray → List (ByteArray × Nat)
  | [], t => [(t, 1)]
  | (x, m) :: r, t => if ltB x t then (x, m) :: insC r t else if eqB x t then (x, m + 1) :: r else (t, 1) :: (x, m) :: r

/-- All texts counted. -/
def countC (xs : List ByteArray) : List (ByteArray × Nat) := xs.foldl insC []

theorem insC_lt {x t : ByteArray} {m : Nat} {r : List (ByteArray × Nat)} (h : ltB x t = true) : insC ((x, m) :: r) t = (x, m) :: insC r t := by rw [insC, if_pos h]
theorem insC_eq {t : ByteArray} {m : Nat} {r : List (ByteArray × Nat)} : insC ((t, m) :: r) t = (t, m + 1) :: r := by
  rw [insC, if_neg (by rw [ltB_irrefl]; simp), if_pos (eqB_self t)]
theorem insC_gt {x t : ByteArray} {m : Nat} {r : List (ByteArray × Nat)} (h : ltB t x = true) : insC ((x, m) :: r) t = (t, 1) :: (x, m) :: r := by
  rw [insC, if_neg (by rw [ltB_asymm h]; simp), if_neg (by rw [eqB_no (fun e => ltB_ne h e.symm)]; simp)]

theorem cmp3 (a b : ByteArray) : ltB a b = true ∨ a = b ∨ ltB b a = true := by
  cases h1 : ltB a b with
  | true => exact .inl rfl
  | false =>
    cases h2 : ltB b a with
    | true => exact .inr (.inr rfl)
    | false => exact .inr (.inl (ltB_tri h1 h2))

/-- It does not matter which text is counted first. -/
theorem insC_comm (l : List (ByteArray × Nat)) (a b : ByteArray) : insC (insC l a) b = insC (insC l b) a := by
  induction l with
  | nil =>
    rcases cmp3 a b with h | rfl | h
    · simp only [insC, h, ltB_asymm h, if_true, eqB_no (fun e => ltB_ne h e.symm)]; simp
    · rfl
    · simp only [insC, h, ltB_asymm h, if_true, eqB_no (fun e => ltB_ne h e.symm)]; simp
  | cons p r ih =>
    obtain ⟨x, m⟩ := p
    rcases cmp3 x a with ha | rfl | ha
    · rcases cmp3 x b with hb | rfl | hb
      · rw [insC_lt ha, insC_lt hb, insC_lt hb, insC_lt ha, ih]
      · rw [insC_lt ha, insC_eq, insC_eq, insC_lt ha]
      · rw [insC_lt ha, insC_gt hb, insC_gt hb, insC_lt (ltB_trans hb ha), insC_lt ha]
    · rcases cmp3 x b with hb | rfl | hb
      · rw [insC_eq, insC_lt hb, insC_lt hb, insC_eq]
      · rfl
      · rw [insC_eq, insC_gt hb, insC_gt hb, insC_lt hb, insC_eq]
    · rcases cmp3 x b with hb | rfl | hb
      · rw [insC_gt ha, insC_lt (ltB_trans ha hb), insC_lt hb, insC_gt ha]
      · rw [insC_gt ha, insC_lt ha, insC_eq, insC_gt ha]
      · rw [insC_gt ha, insC_gt hb]
        rcases cmp3 a b with h | rfl | h
        · rw [insC_lt h, insC_gt hb, insC_gt h]
        · rfl
        · rw [insC_gt h, insC_lt h, insC_gt ha]

theorem foldl_insC_perm {xs ys : List ByteArray} (h : xs.Perm ys) : ∀ l, xs.foldl insC l = ys.foldl insC l := by
  induction h with
  | nil => intro l; rfl
  | cons x _ ih => intro l; exact ih _
  | swap x y l => intro m; simp only [List.foldl_cons]; rw [insC_comm]
  | trans _ _ ih1 ih2 => intro l; rw [ih1, ih2]

theorem countC_perm {xs ys : List ByteArray} (h : xs.Perm ys) : countC xs = countC ys := foldl_insC_perm h []

/-- Nothing comes ahead of what stands ahead of it. -/
def SortedB (xs : List ByteArray) : Prop := xs.Pairwise fun a b => ltB b a = false

/-! ### In its place, told by an index -/
/-- How many of the counted texts come ahead of a text. -/
def posC (l : List (ByteArray × Nat)) (t : ByteArray) : Nat := (l.takeWhile fun p => ltB p.1 t).length

theorem insC_at (l : List (ByteArray × Nat)) (t : ByteArray) (k : Nat) (hk : k ≤ l.length) (hlt : ∀ i (hi : i < k), ltB (l[i]'(by omega)).1 t = true) (hge : ∀ h : k < l.length, ltB l[k].1 t = false) :
    insC l t = if h : k < l.length then (if eqB l[k].1 t then l.set k (l[k].1, l[k].2 + 1) else l.take k ++ (t, 1) :: l.drop k) else l.take k ++ (t, 1) :: l.drop k := by
  induction l generalizing k with
  | nil =>
    obtain rfl : k = 0 := by simpa using hk
    simp [insC]
  | cons p r ih =>
    obtain ⟨x, m⟩ := p
    cases k with
    | zero =>
      have h0 := hge (by simp)
      simp only [List.getElem_cons_zero] at h0
      rw [insC, if_neg (by rw [h0]; simp)]
      simp
    | succ k =>
      have h0 := hlt 0 (by omega)
      simp only [List.getElem_cons_zero] at h0
      rw [insC, if_pos h0, ih k (by simpa using hk) (fun i hi => by have := hlt (i + 1) (by omega); simpa using this) (fun h => by have := hge (by simpa using h); simpa using this)]
      by_cases h : k < r.length
      · rw [dif_pos h, dif_pos (by simpa using h)]
        simp only [List.getElem_cons_succ]
        split <;> simp
      · rw [dif_neg h, dif_neg (by simpa using h)]
        simp


/-! ### Merging -/
theorem leB_trans {a b c : ByteArray} (h1 : ltB b a = false) (h2 : ltB c b = false) : ltB c a = false := by
  cases h : ltB c a with
  | false => rfl
  | true =>
    rcases cmp3 a b with hh | rfl | hh
    · have := ltB_trans h hh; rw [h2] at this; cases this
    · rw [h] at h2; cases h2
    · rw [h1] at hh; cases hh

theorem sorted_drop {xs : List ByteArray} (h : SortedB xs) {i : Nat} (hi : i < xs.length) : ∀ y ∈ xs.drop i, ltB y xs[i] = false := by
  intro y hy
  have hd : SortedB (xs.drop i) := List.Pairwise.sublist (List.drop_sublist i xs) h
  rw [List.drop_eq_getElem_cons hi] at hy hd
  rcases List.mem_cons.1 hy with rfl | hy
  · exact ltB_irrefl _
  · exact (List.pairwise_cons.1 hd).1 y hy

structure MergeI (xs ys m : List ByteArray) (i j : Nat) : Prop where
  perm : m.Perm (xs.take i ++ ys.take j)
  sorted : SortedB m
  lx : ∀ x ∈ m, ∀ y ∈ xs.drop i, ltB y x = false
  ly : ∀ x ∈ m, ∀ y ∈ ys.drop j, ltB y x = false

theorem MergeI.start (xs ys : List ByteArray) : MergeI xs ys [] 0 0 := ⟨by simp, List.Pairwise.nil, by simp, by simp⟩

theorem mem_drop_succ {xs : List ByteArray} {i : Nat} {y : ByteArray} (h : y ∈ xs.drop (i + 1)) : y ∈ xs.drop i := by
  rw [← List.drop_drop] at h
  exact List.mem_of_mem_drop h

theorem MergeI.right {xs ys m : List ByteArray} {i j : Nat} (h : MergeI xs ys m i j) (hxs : SortedB xs) (hys : SortedB ys) (hi : i < xs.length) (hj : j < ys.length) (hlt : ltB ys[j] xs[i] = true) : MergeI xs ys (m ++ [ys[j]]) i (j + 1) := by
  have hmem : ys[j] ∈ ys.drop j := by rw [List.drop_eq_getElem_cons hj]; exact List.mem_cons_self
  refine ⟨?_, ?_, ?_, ?_⟩
  · rw [List.take_succ_eq_append_getElem hj, ← List.append_assoc]
    exact h.perm.append_right _
  · exact List.pairwise_append.2 ⟨h.sorted, by simp, fun a ha b hb => by simp at hb; subst hb; exact h.ly a ha _ hmem⟩
  · intro x hx y hy
    rcases List.mem_append.1 hx with hx | hx
    · exact h.lx x hx y hy
    · simp at hx; subst hx
      cases hh : ltB y ys[j] with
      | false => rfl
      | true => have := ltB_trans hh hlt; rw [sorted_drop hxs hi y hy] at this; cases this
  · intro x hx y hy
    have hy' := mem_drop_succ hy
    rcases List.mem_append.1 hx with hx | hx
    · exact h.ly x hx y hy'
    · simp at hx; subst hx
      exact sorted_drop hys hj y hy'

theorem MergeI.left {xs ys m : List ByteArray} {i j : Nat} (h : MergeI xs ys m i j) (hxs : SortedB xs) (hys : SortedB ys) (hi : i < xs.length) (hj : j < ys.length) (hlt : ltB ys[j] xs[i] = false) : MergeI xs ys (m ++ [xs[i]]) (i + 1) j := by
  have hmem : xs[i] ∈ xs.drop i := by rw [List.drop_eq_getElem_cons hi]; exact List.mem_cons_self
  refine ⟨?_, ?_, ?_, ?_⟩
  · rw [List.take_succ_eq_append_getElem hi]
    refine (h.perm.append_right _).trans ?_
    rw [List.append_assoc, List.append_assoc]
    exact List.Perm.append_left _ List.perm_append_comm
  · exact List.pairwise_append.2 ⟨h.sorted, by simp, fun a ha b hb => by simp at hb; subst hb; exact h.lx a ha _ hmem⟩
  · intro x hx y hy
    have hy' := mem_drop_succ hy
    rcases List.mem_append.1 hx with hx | hx
    · exact h.lx x hx y hy'
    · simp at hx; subst hx
      exact sorted_drop hxs hi y hy'
  · intro x hx y hy
    rcases List.mem_append.1 hx with hx | hx
    · exact h.ly x hx y hy
    · simp at hx; subst hx
      exact leB_trans hlt (sorted_drop hys hj y hy)

theorem MergeI.done {xs ys m : List ByteArray} {i j : Nat} (h : MergeI xs ys m i j) (hxs : SortedB xs) (hys : SortedB ys) (he : xs.length ≤ i ∨ ys.length ≤ j) : (m ++ xs.drop i ++ ys.drop j).Perm (xs ++ ys) ∧ SortedB (m ++ xs.drop i ++ ys.drop j) := by
  constructor
  · refine ((h.perm.append_right _).append_right _).trans ?_
    have e1 : xs ++ ys = (xs.take i ++ xs.drop i) ++ (ys.take j ++ ys.drop j) := by rw [List.take_append_drop, List.take_append_drop]
    rw [e1]
    simp only [List.append_assoc]
    exact List.Perm.append_left _ (by
      rw [← List.append_assoc, ← List.append_assoc]
      exact List.Perm.append_right _ List.perm_append_comm)
  · have h1 : SortedB (xs.drop i) := List.Pairwise.sublist (List.drop_sublist i xs) hxs
    have h2 : SortedB (ys.drop j) := List.Pairwise.sublist (List.drop_sublist j ys) hys
    rcases he with he | he
    · rw [List.drop_of_length_le he, List.append_nil]
      exact List.pairwise_append.2 ⟨h.sorted, h2, fun a ha b hb => h.ly a ha b hb⟩
    · rw [List.drop_of_length_le he, List.append_nil]
      exact List.pairwise_append.2 ⟨h.sorted, h1, fun a ha b hb => h.lx a ha b hb⟩

/-! ### Counting a sorted row -/
theorem insC_append {pre l : List (ByteArray × Nat)} {t : ByteArray} (h : ∀ p ∈ pre, ltB p.1 t = true) : insC (pre ++ l) t = pre ++ insC l t := by
  induction pre with
  | nil => rfl
  | cons p r ih =>
    obtain ⟨x, m⟩ := p
    rw [List.cons_append, insC_lt (h (x, m) (by simp)), ih (fun q hq => h q (by simp [hq]))]
    rfl

theorem countC_take {ys : List ByteArray} {k : Nat} (hk : k < ys.length) : countC (ys.take (k + 1)) = insC (countC (ys.take k)) ys[k] := by
  rw [List.take_succ_eq_append_getElem hk, countC, List.foldl_append]; rfl

theorem sorted_le {ys : List ByteArray} (h : SortedB ys) {i j : Nat} (hij : i ≤ j) (hj : j < ys.length) : ltB ys[j] ys[i] = false := by
  have hm : ys[j] ∈ ys.drop i := by
    rw [List.mem_iff_getElem]
    exact ⟨j - i, by simp; omega, by simp [List.getElem_drop, show i + (j - i) = j by omega]⟩
  exact sorted_drop h (by omega) _ hm

/-- What has been counted of a sorted row ends with the last text. -/
theorem count_last {ys : List ByteArray} (h : SortedB ys) (k : Nat) (hk : k < ys.length) :
    ∃ pre m, countC (ys.take (k + 1)) = pre ++ [(ys[k], m)] ∧ (∀ p ∈ pre, ltB p.1 ys[k] = true) ∧ 1 ≤ m ∧ m ≤ k + 1 ∧ pre.length ≤ k := by
  induction k with
  | zero =>
    refine ⟨[], 1, ?_, by simp, by omega, by omega, by simp⟩
    rw [countC_take hk]; rfl
  | succ k ih =>
    obtain ⟨pre, m, h1, h2, h3, h4, h5⟩ := ih (by omega)
    rw [countC_take hk, h1]
    have hle := sorted_le h (show k ≤ k + 1 by omega) hk
    by_cases he : ys[k] = ys[k + 1]
    · refine ⟨pre, m + 1, ?_, fun p hp => by rw [← he]; exact h2 p hp, by omega, by omega, by omega⟩
      rw [← he, insC_append h2, insC_eq]
    · have hlt : ltB ys[k] ys[k + 1] = true := by
        cases hh : ltB ys[k] ys[k + 1] with
        | true => rfl
        | false => exact absurd (ltB_tri hh hle) he
      refine ⟨pre ++ [(ys[k], m)], 1, ?_, fun p hp => ?_, by omega, by omega, by simp; omega⟩
      · rw [insC_append (l := [(ys[k], m)]) (fun p hp => ltB_trans (h2 p hp) hlt), insC_lt hlt]
        simp [insC]
      · rcases List.mem_append.1 hp with hp | hp
        · exact ltB_trans (h2 p hp) hlt
        · simp at hp; subst hp; exact hlt

/-- A text that is not the one ahead is counted anew. -/
theorem count_new {ys : List ByteArray} (h : SortedB ys) (k : Nat) (hk : k < ys.length) (hn : ∀ h0 : 0 < k, ys[k] ≠ ys[k - 1]) : countC (ys.take (k + 1)) = countC (ys.take k) ++ [(ys[k], 1)] := by
  cases k with
  | zero => rw [countC_take hk]; rfl
  | succ k =>
    have he := hn (by omega)
    simp only [Nat.add_sub_cancel] at he
    obtain ⟨pre, m, h1, h2, _⟩ := count_last h k (by omega)
    have hle := sorted_le h (show k ≤ k + 1 by omega) hk
    have hlt : ltB ys[k] ys[k + 1] = true := by
      cases hh : ltB ys[k] ys[k + 1] with
      | true => rfl
      | false => exact absurd (ltB_tri hh hle).symm he
    rw [countC_take hk, h1, insC_append (l := [(ys[k], m)]) (fun p hp => ltB_trans (h2 p hp) hlt), insC_lt hlt]
    simp [insC]

/-- The text ahead again: its number grows. -/
theorem count_again {ys : List ByteArray} (h : SortedB ys) (k : Nat) (hk : k + 1 < ys.length) (he : ys[k + 1] = ys[k]) :
    ∃ pre m, countC (ys.take (k + 1)) = pre ++ [(ys[k], m)] ∧ countC (ys.take (k + 2)) = pre ++ [(ys[k], m + 1)] ∧ m ≤ k + 1 ∧ pre.length ≤ k := by
  obtain ⟨pre, m, h1, h2, _, h4, h5⟩ := count_last h k (by omega)
  refine ⟨pre, m, h1, ?_, h4, h5⟩
  rw [countC_take hk, h1, he, insC_append h2, insC_eq]

theorem insC_len (l : List (ByteArray × Nat)) (t : ByteArray) : (insC l t).length ≤ l.length + 1 := by
  induction l with
  | nil => simp [insC]
  | cons p r ih =>
    obtain ⟨x, m⟩ := p
    rcases cmp3 x t with h | rfl | h
    · rw [insC_lt h]; simp; omega
    · rw [insC_eq]; simp
    · rw [insC_gt h]; simp
theorem countC_len (xs : List ByteArray) : (countC xs).length ≤ xs.length := by
  have key : ∀ (xs : List ByteArray) (l : List (ByteArray × Nat)), (xs.foldl insC l).length ≤ l.length + xs.length := by
    intro xs
    induction xs with
    | nil => intro l; simp
    | cons x xs ih =>
      intro l
      have h1 := ih (insC l x)
      have h2 := insC_len l x
      simp only [List.foldl_cons, List.length_cons]; omega
  simpa [countC] using key xs []

/-- The texts that were counted, and their numbers. -/
def cntW (l : List (ByteArray × Nat)) : List ByteArray := l.map (·.1)
def cntN (l : List (ByteArray × Nat)) : List Int := l.map fun p => (p.2 : Int)
theorem cntW_len (l : List (ByteArray × Nat)) : (cntW l).length = l.length := by simp [cntW]
theorem cntN_len (l : List (ByteArray × Nat)) : (cntN l).length = l.length := by simp [cntN]

end Go.Proofs.Ytdcdminjoehiiaa
