/-
  Plain mathematics of a row of places that can still be chosen: its numbers rise, so its first place is the last one of the least. No conditions.
-/
import Derived.Test.YtclblnkeakkdeaaMathChosen
namespace Go.Proofs.Ytclblnkeakkdeaa

/-- How many places of a row are left when those with numbers not below x are taken from its end. -/
def cutN (L : List Int) (x : Int) (P : List Nat) : Nat → Nat
  | 0 => 0
  | m + 1 => if x ≤ L.getD (P.getD m 0) 0 then cutN L x P m else m + 1

theorem cutN_le (L : List Int) (x : Int) (P : List Nat) (m : Nat) : cutN L x P m ≤ m := by
  induction m with
  | zero => exact Nat.le_refl _
  | succ m ih =>
    unfold cutN
    split
    · omega
    · omega
theorem cutN_behind (L : List Int) (x : Int) (P : List Nat) (m i : Nat) (h1 : cutN L x P m ≤ i) (h2 : i < m) : x ≤ L.getD (P.getD i 0) 0 := by
  induction m with
  | zero => omega
  | succ m ih =>
    unfold cutN at h1
    split at h1
    · rename_i h
      by_cases e : i = m
      · subst e; exact h
      · exact ih h1 (by omega)
    · omega
theorem cutN_ahead (L : List Int) (x : Int) (P : List Nat) (m p : Nat) (h : cutN L x P m = p + 1) : L.getD (P.getD p 0) 0 < x := by
  induction m with
  | zero => simp [cutN] at h
  | succ m ih =>
    unfold cutN at h
    split at h
    · exact ih h
    · rename_i h2
      obtain rfl : m = p := by omega
      omega
theorem cutN_step {L : List Int} {x : Int} {P : List Nat} {m : Nat} (h : x ≤ L.getD (P.getD m 0) 0) : cutN L x P (m + 1) = cutN L x P m := by rw [cutN, if_pos h]
theorem cutN_stop {L : List Int} {x : Int} {P : List Nat} {m : Nat} (h : ¬ x ≤ L.getD (P.getD m 0) 0) : cutN L x P (m + 1) = m + 1 := by rw [cutN, if_neg h]

/-- The places, among the last w of the first k, behind which all numbers are greater. -/
structure IsQ (L : List Int) (w k : Nat) (P : List Nat) : Prop where
  up : P.Pairwise (· < ·)
  mem : ∀ p, p ∈ P ↔ p < k ∧ k ≤ p + w ∧ ∀ q, p < q → q < k → L.getD p 0 < L.getD q 0

theorem IsQ.nil (L : List Int) (w : Nat) : IsQ L w 0 [] := ⟨.nil, by intro p; simp⟩

theorem up_get {P : List Nat} (h : P.Pairwise (· < ·)) {i j : Nat} (hij : i < j) (hj : j < P.length) : P.getD i 0 < P.getD j 0 := by
  have hi : i < P.length := by omega
  have := List.pairwise_iff_getElem.1 h i j hi hj hij
  simpa [List.getD_eq_getElem?_getD, List.getElem?_eq_getElem hi, List.getElem?_eq_getElem hj] using this

theorem getD_mem {P : List Nat} {i : Nat} (h : i < P.length) : P.getD i 0 ∈ P := by
  rw [List.getD_eq_getElem?_getD, List.getElem?_eq_getElem h]
  simp

theorem IsQ.len {L : List Int} {w k : Nat} {P : List Nat} (h : IsQ L w k P) : P.length ≤ k := by
  have hi : ∀ i, i < P.length → i ≤ P.getD i 0 := by
    intro i
    induction i with
    | zero => intro _; omega
    | succ i ih =>
      intro hl
      have h1 := ih (by omega)
      have h2 := up_get h.up (show i < i + 1 by omega) hl
      omega
  by_cases h0 : P.length = 0
  · omega
  · have h1 := hi (P.length - 1) (by omega)
    have h2 := ((h.mem _).1 (getD_mem (i := P.length - 1) (by omega))).1
    omega

/-- Numbers rise along the row. -/
theorem IsQ.rise {L : List Int} {w k : Nat} {P : List Nat} (h : IsQ L w k P) {i j : Nat} (hij : i < j) (hj : j < P.length) : L.getD (P.getD i 0) 0 < L.getD (P.getD j 0) 0 :=
  ((h.mem _).1 (getD_mem (i := i) (by omega))).2.2 _ (up_get h.up hij hj) ((h.mem _).1 (getD_mem hj)).1

/-- The row with the next place, the first place not yet left out. -/
def pushQ (L : List Int) (k : Nat) (P : List Nat) : List Nat := P.take (cutN L (L.getD k 0) P P.length) ++ [k]

theorem pushQ_mem {L : List Int} {w k : Nat} {P : List Nat} (h : IsQ L w k P) (p : Nat) : p ∈ pushQ L k P ↔ p = k ∨ (p < k ∧ k ≤ p + w ∧ ∀ q, p < q → q < k + 1 → L.getD p 0 < L.getD q 0) := by
  have hP : p ∈ P.take (cutN L (L.getD k 0) P P.length) ↔ p ∈ P ∧ L.getD p 0 < L.getD k 0 := by
    constructor
    · intro hp
      refine ⟨List.mem_of_mem_take hp, ?_⟩
      obtain ⟨i, hi, rfl⟩ := List.getElem_of_mem hp
      simp only [List.length_take] at hi
      have hil : i < P.length := by omega
      rw [List.getElem_take]
      have hg : P[i] = P.getD i 0 := by simp [List.getD_eq_getElem?_getD, hil]
      rw [hg]
      obtain ⟨m, hm⟩ : ∃ m, cutN L (L.getD k 0) P P.length = m + 1 := ⟨cutN L (L.getD k 0) P P.length - 1, by omega⟩
      have h1 := cutN_ahead L _ P _ m hm
      have h2 := cutN_le L (L.getD k 0) P P.length
      by_cases e : i = m
      · subst e; exact h1
      · have h3 := h.rise (show i < m by omega) (by omega)
        omega
    · rintro ⟨hp, hlt⟩
      obtain ⟨i, hi, rfl⟩ := List.getElem_of_mem hp
      have hg : P[i] = P.getD i 0 := by simp [List.getD_eq_getElem?_getD, hi]
      by_cases e : cutN L (L.getD k 0) P P.length ≤ i
      · have h1 := cutN_behind L _ P P.length i e hi
        rw [hg] at hlt
        omega
      · rw [List.mem_iff_getElem]
        exact ⟨i, by rw [List.length_take]; omega, by rw [List.getElem_take]⟩
  unfold pushQ
  rw [List.mem_append, hP, h.mem, List.mem_singleton]
  constructor
  · rintro (⟨⟨h1, h2, h3⟩, h4⟩ | rfl)
    · refine .inr ⟨h1, h2, fun q hq hk => ?_⟩
      by_cases e : q = k
      · subst e; exact h4
      · exact h3 q hq (by omega)
    · exact .inl rfl
  · rintro (rfl | ⟨h1, h2, h3⟩)
    · exact .inr rfl
    · exact .inl ⟨⟨h1, h2, fun q hq hk => h3 q hq (by omega)⟩, h3 k h1 (by omega)⟩

theorem pushQ_up {L : List Int} {w k : Nat} {P : List Nat} (h : IsQ L w k P) : (pushQ L k P).Pairwise (· < ·) := by
  unfold pushQ
  rw [List.pairwise_append]
  refine ⟨h.up.take, List.pairwise_singleton _ _, fun a ha b hb => ?_⟩
  obtain rfl := List.mem_singleton.1 hb
  exact ((h.mem a).1 (List.mem_of_mem_take ha)).1

theorem pushQ_len {L : List Int} {k : Nat} {P : List Nat} : (pushQ L k P).length = cutN L (L.getD k 0) P P.length + 1 := by
  have h2 := cutN_le L (L.getD k 0) P P.length
  simp only [pushQ, List.length_append, List.length_take, List.length_singleton]
  omega
theorem pushQ_ne {L : List Int} {k : Nat} {P : List Nat} : pushQ L k P ≠ [] := by simp [pushQ]

/-- The first place is not too far back: all stay. -/
theorem IsQ.stay {L : List Int} {w k : Nat} {P : List Nat} (hw : 0 < w) (h : IsQ L w k P) (hd : k < (pushQ L k P).getD 0 0 + w) : IsQ L w (k + 1) (pushQ L k P) := by
  refine ⟨pushQ_up h, fun p => ?_⟩
  rw [pushQ_mem h]
  constructor
  · rintro (rfl | ⟨h1, h2, h3⟩)
    · exact ⟨by omega, by omega, fun q h4 h5 => by omega⟩
    · have hm : p ∈ pushQ L k P := (pushQ_mem h p).2 (.inr ⟨h1, h2, h3⟩)
      obtain ⟨i, hi, hpi⟩ := List.getElem_of_mem hm
      have hg : (pushQ L k P).getD i 0 = p := by simp [List.getD_eq_getElem?_getD, hi, hpi]
      refine ⟨by omega, ?_, h3⟩
      by_cases e : i = 0
      · subst e; omega
      · have := up_get (pushQ_up h) (show 0 < i by omega) hi
        omega
  · rintro ⟨h1, h2, h3⟩
    by_cases e : p = k
    · exact .inl e
    · exact .inr ⟨by omega, by omega, h3⟩

/-- The first place is too far back: it alone goes. -/
theorem IsQ.leave {L : List Int} {w k : Nat} {P : List Nat} (hw : 0 < w) (h : IsQ L w k P) (hd : (pushQ L k P).getD 0 0 + w ≤ k) : IsQ L w (k + 1) ((pushQ L k P).drop 1) ∧ 2 ≤ (pushQ L k P).length := by
  have hup := pushQ_up h
  have hm := pushQ_mem h
  revert hd hup hm
  generalize pushQ L k P = R
  intro hd hup hm
  cases R with
  | nil => exact absurd ((hm k).2 (.inl rfl)) (by simp)
  | cons a R =>
    simp only [List.getD_cons_zero] at hd
    rw [List.pairwise_cons] at hup
    have hk : k ∈ a :: R := (hm k).2 (.inl rfl)
    have ha := (hm a).1 (List.mem_cons_self ..)
    have hkR : k ∈ R := by
      rcases List.mem_cons.1 hk with e | e
      · subst e; omega
      · exact e
    refine ⟨⟨by simpa using hup.2, fun p => ?_⟩, by have := List.length_pos_of_mem hkR; simp only [List.length_cons]; omega⟩
    simp only [List.drop_succ_cons, List.drop_zero]
    constructor
    · intro hp
      have hap := hup.1 p hp
      rcases (hm p).1 (List.mem_cons_of_mem _ hp) with rfl | ⟨h1, h2, h3⟩
      · exact ⟨by omega, by omega, fun q h4 h5 => by omega⟩
      · refine ⟨by omega, ?_, h3⟩
        rcases ha with rfl | ⟨h4, h5, _⟩ <;> omega
    · rintro ⟨h1, h2, h3⟩
      have hp : p ∈ a :: R := (hm p).2 (by
        by_cases e : p = k
        · exact .inl e
        · exact .inr ⟨by omega, by omega, h3⟩)
      rcases List.mem_cons.1 hp with e | e
      · subst e; omega
      · exact e

/-- The first place is that of the least number of the window. -/
theorem IsQ.first {L : List Int} {w k : Nat} {P : List Nat} (hw : 0 < w) (hk : w ≤ k) (h : IsQ L w k P) : 0 < P.length ∧ P.getD 0 0 = leastTo L (k - w) w := by
  have hl := leastTo_is L (k - w) w hw
  have hx : leastTo L (k - w) w ∈ P := (h.mem _).2 ⟨by have := hl.hi; omega, by have := hl.lo; omega, fun q h1 h2 => hl.last q h1 (by omega)⟩
  have h0 := List.length_pos_of_mem hx
  refine ⟨h0, ?_⟩
  have hh := (h.mem _).1 (getD_mem (i := 0) h0)
  obtain ⟨i, hi, hpi⟩ := List.getElem_of_mem hx
  have hg : P.getD i 0 = leastTo L (k - w) w := by simp [List.getD_eq_getElem?_getD, hi, hpi]
  by_cases e : i = 0
  · subst e; exact hg
  · have h1 := h.rise (show 0 < i by omega) hi
    have h2 := hl.least (P.getD 0 0) (by omega) (by omega)
    rw [hg] at h1
    omega

end Go.Proofs.Ytclblnkeakkdeaa
