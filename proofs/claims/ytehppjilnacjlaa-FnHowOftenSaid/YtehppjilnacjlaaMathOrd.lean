/-
  Plain mathematics of putting numbers in order by counting, and of counts that are handed on along links, the longest first. No conditions.
-/
import Derived.Test.YtehppjilnacjlaaMathSize
import Derived.Test.YtehppjilnacjlaaMathEnds
namespace Go.Proofs.Ytehppjilnacjlaa

/-- How many of the first numbers are less than v, and how many are v. -/
def clN (f : Nat → Nat) (n v : Nat) : Nat := ((List.range n).filter fun j => decide (f j < v)).length
def ceN (f : Nat → Nat) (n v : Nat) : Nat := ((List.range n).filter fun j => decide (f j = v)).length
theorem ce_succ (f : Nat → Nat) (n v : Nat) : ceN f (n + 1) v = ceN f n v + if f n = v then 1 else 0 := by
  rw [ceN, List.range_succ, List.filter_append, List.length_append, ← ceN]
  by_cases h : f n = v
  · rw [if_pos h]; simp [h]
  · rw [if_neg h]; simp [h]
theorem ce_zero (f : Nat → Nat) (v : Nat) : ceN f 0 v = 0 := rfl
theorem cl_zero (f : Nat → Nat) (n : Nat) : clN f n 0 = 0 := by
  rw [clN, List.filter_eq_nil_iff.2 (fun a _ => by simp)]; rfl
theorem cl_succ (f : Nat → Nat) (n v : Nat) : clN f n (v + 1) = clN f n v + ceN f n v := by
  unfold clN ceN
  induction n with
  | zero => rfl
  | succ n ih =>
    rw [List.range_succ, List.filter_append, List.filter_append, List.filter_append, List.length_append, List.length_append, List.length_append, ih]
    by_cases h1 : f n < v
    · have h2 : f n < v + 1 := by omega
      have h3 : f n ≠ v := by omega
      simp [h1, h2, h3]; omega
    · by_cases h3 : f n = v
      · simp [h3]; omega
      · have h2 : ¬ f n < v + 1 := by omega
        simp [h1, h2, h3]
theorem cl_le (f : Nat → Nat) (n v : Nat) : clN f n v ≤ n := by
  have h := List.length_filter_le (fun j => decide (f j < v)) (List.range n)
  rwa [List.length_range] at h
theorem ce_le (f : Nat → Nat) (n v : Nat) : ceN f n v ≤ n := by
  have h := List.length_filter_le (fun j => decide (f j = v)) (List.range n)
  rwa [List.length_range] at h
theorem cl_mono (f : Nat → Nat) (n : Nat) {v x : Nat} (h : v ≤ x) : clN f n v ≤ clN f n x := by
  induction h with
  | refl => exact Nat.le_refl _
  | step _ ih => rw [cl_succ]; omega
theorem ce_mono (f : Nat → Nat) (v : Nat) {n m : Nat} (h : n ≤ m) : ceN f n v ≤ ceN f m v := by
  induction h with
  | refl => exact Nat.le_refl _
  | step _ ih => rw [ce_succ]; omega
def posN (f : Nat → Nat) (n j : Nat) : Nat := clN f n (f j) + ceN f j (f j)
theorem pos_next {f : Nat → Nat} {n j : Nat} (h : j < n) : posN f n j < clN f n (f j + 1) := by
  rw [posN, cl_succ]
  have h1 := ce_succ f j (f j)
  rw [if_pos rfl] at h1
  have h2 := ce_mono f (f j) (show j + 1 ≤ n by omega)
  omega
theorem pos_lt {f : Nat → Nat} {n j : Nat} (h : j < n) : posN f n j < n := Nat.lt_of_lt_of_le (pos_next h) (cl_le _ _ _)
theorem pos_less {f : Nat → Nat} {n j e : Nat} (hj : j < n) (h : f j < f e) : posN f n j < posN f n e := by
  have h1 := pos_next (f := f) hj
  have h2 := cl_mono f n (show f j + 1 ≤ f e by omega)
  have h3 : clN f n (f e) ≤ posN f n e := by rw [posN]; omega
  omega
theorem pos_tie {f : Nat → Nat} {n j e : Nat} (hje : j < e) (h : f j = f e) : posN f n j < posN f n e := by
  rw [posN, posN, h]
  have h1 := ce_succ f j (f e)
  rw [if_pos h] at h1
  have h2 := ce_mono f (f e) (show j + 1 ≤ e by omega)
  omega
theorem pos_inj {f : Nat → Nat} {n j e : Nat} (hj : j < n) (he : e < n) (h : posN f n j = posN f n e) : j = e := by
  rcases Nat.lt_trichotomy (f j) (f e) with h1 | h1 | h1
  · have := pos_less (e := e) hj h1; omega
  · rcases Nat.lt_trichotomy j e with h2 | h2 | h2
    · have := pos_tie (n := n) h2 h1; omega
    · exact h2
    · have := pos_tie (n := n) h2 h1.symm; omega
  · have := pos_less (e := j) he h1; omega
theorem pos_surj {f : Nat → Nat} {n p : Nat} (hp : p < n) : ∃ j, j < n ∧ posN f n j = p := by
  refine Classical.byContradiction fun hno => ?_
  have hnd : ((List.range n).map (posN f n)).Nodup := nodup_map (List.nodup_range) (fun x hx y hy e => pos_inj (List.mem_range.1 hx) (List.mem_range.1 hy) e)
  have h1 := count_in n 0 (p :: (List.range n).map (posN f n)) (List.nodup_cons.2 ⟨fun hm => by
    obtain ⟨j, hj, e⟩ := List.mem_map.1 hm
    exact hno ⟨j, List.mem_range.1 hj, e⟩, hnd⟩) (fun x hx => by
    rcases List.mem_cons.1 hx with rfl | hx
    · exact ⟨Nat.zero_le _, hp⟩
    · obtain ⟨j, hj, e⟩ := List.mem_map.1 hx
      rw [← e]
      exact ⟨Nat.zero_le _, pos_lt (List.mem_range.1 hj)⟩)
  simp at h1
  omega
/-- What stands at a place behind so many numbers that were put. -/
noncomputable def ordN (f : Nat → Nat) (n i p : Nat) : Nat := open Classical in if h : ∃ j, j < i ∧ posN f n j = p then h.choose else 0
theorem ord_at {f : Nat → Nat} {n i j : Nat} (hj : j < i) (hi : i ≤ n) : ordN f n i (posN f n j) = j := by
  have h : ∃ k, k < i ∧ posN f n k = posN f n j := ⟨j, hj, rfl⟩
  rw [ordN, dif_pos h]
  exact pos_inj (by have := h.choose_spec.1; omega) (by omega) h.choose_spec.2
theorem ord_zero (f : Nat → Nat) (n p : Nat) : ordN f n 0 p = 0 := by
  rw [ordN, dif_neg]
  rintro ⟨j, hj, _⟩
  omega
theorem ord_other {f : Nat → Nat} {n i p : Nat} (hi : i < n) (hp : p ≠ posN f n i) : ordN f n (i + 1) p = ordN f n i p := by
  by_cases h : ∃ j, j < i ∧ posN f n j = p
  · obtain ⟨j, hj, rfl⟩ := h
    rw [ord_at (by omega) (by omega), ord_at hj (by omega)]
  · rw [ordN, ordN, dif_neg h, dif_neg]
    rintro ⟨j, hj, e⟩
    by_cases hji : j = i
    · subst hji; exact hp e.symm
    · exact h ⟨j, by omega, e⟩
/-- An order of the first n numbers by what f gives. -/
structure IsOrd (f : Nat → Nat) (n : Nat) (P : Nat → Nat) : Prop where
  lt : ∀ p, p < n → P p < n
  inj : ∀ p q, p < n → q < n → P p = P q → p = q
  surj : ∀ j, j < n → ∃ p, p < n ∧ P p = j
  asc : ∀ p q, p < n → q < n → p < q → f (P p) ≤ f (P q)
theorem ord_is (f : Nat → Nat) (n : Nat) : IsOrd f n (ordN f n n) := by
  refine ⟨fun p hp => ?_, fun p q hp hq e => ?_, fun j hj => ⟨posN f n j, pos_lt hj, ord_at hj (Nat.le_refl _)⟩, fun p q hp hq hl => ?_⟩
  · obtain ⟨j, hj, rfl⟩ := pos_surj (f := f) hp
    rw [ord_at hj (Nat.le_refl _)]; exact hj
  · obtain ⟨j, hj, rfl⟩ := pos_surj (f := f) hp
    obtain ⟨k, hk, rfl⟩ := pos_surj (f := f) hq
    rw [ord_at hj (Nat.le_refl _), ord_at hk (Nat.le_refl _)] at e
    rw [e]
  · obtain ⟨j, hj, rfl⟩ := pos_surj (f := f) hp
    obtain ⟨k, hk, rfl⟩ := pos_surj (f := f) hq
    rw [ord_at hj (Nat.le_refl _), ord_at hk (Nat.le_refl _)]
    refine Nat.le_of_not_lt fun h => ?_
    have := pos_less (n := n) (e := j) hk h
    omega

/-- The places while they are added up, and while numbers are put. -/
def plA (f : Nat → Nat) (i v : Nat) : Nat := if v = 0 then 0 else ceN f i (v - 1)
def plB (f : Nat → Nat) (n l v : Nat) : Nat := if v < l then clN f n v else plA f n v
def plC (f : Nat → Nat) (n i v : Nat) : Nat := clN f n v + ceN f i v
theorem plA_at (f : Nat → Nat) (i : Nat) : plA f (i + 1) (f i + 1) = plA f i (f i + 1) + 1 := by
  rw [plA, if_neg (by omega), plA, if_neg (by omega), Nat.add_sub_cancel, ce_succ, if_pos rfl]
theorem plA_ne {f : Nat → Nat} {i v : Nat} (h : v ≠ f i + 1) : plA f (i + 1) v = plA f i v := by
  unfold plA
  by_cases h0 : v = 0
  · rw [if_pos h0, if_pos h0]
  · rw [if_neg h0, if_neg h0, ce_succ, if_neg (by omega), Nat.add_zero]
theorem plB_one (f : Nat → Nat) (n v : Nat) : plB f n 1 v = plA f n v := by
  unfold plB
  split
  · obtain rfl : v = 0 := by omega
    rw [cl_zero, plA, if_pos rfl]
  · rfl
theorem plB_at {f : Nat → Nat} {n l : Nat} (h : 1 ≤ l) : plB f n (l + 1) l = plB f n l l + plB f n l (l - 1) := by
  obtain ⟨k, rfl⟩ : ∃ k, l = k + 1 := ⟨l - 1, by omega⟩
  rw [plB, if_pos (by omega), plB, if_neg (by omega), plB, if_pos (by omega), plA, if_neg (by omega), Nat.add_sub_cancel, cl_succ]
  omega
theorem plB_ne {f : Nat → Nat} {n l v : Nat} (h : v ≠ l) : plB f n (l + 1) v = plB f n l v := by
  unfold plB
  by_cases h1 : v < l
  · rw [if_pos (by omega), if_pos h1]
  · rw [if_neg (by omega), if_neg h1]
theorem plB_le (f : Nat → Nat) (n l v : Nat) : plB f n l v ≤ n := by
  unfold plB plA
  split
  · exact cl_le _ _ _
  · split
    · exact Nat.zero_le _
    · exact ce_le _ _ _
theorem plC_zero (f : Nat → Nat) (n v : Nat) : plC f n 0 v = clN f n v := by rw [plC, ce_zero, Nat.add_zero]
theorem plC_at (f : Nat → Nat) (n i : Nat) : plC f n i (f i) = posN f n i := rfl
theorem plC_step (f : Nat → Nat) (n i : Nat) : plC f n (i + 1) (f i) = plC f n i (f i) + 1 := by rw [plC, plC, ce_succ, if_pos rfl]; omega
theorem plC_ne {f : Nat → Nat} {n i v : Nat} (h : v ≠ f i) : plC f n (i + 1) v = plC f n i v := by rw [plC, plC, ce_succ, if_neg (fun e => h e.symm)]; omega

/-- A state holds the count of a beginning of the text, if all longer states on its way have handed on theirs. -/
def holdS (s : Wd) (L : List Sta) (S : Nat → Prop) (q e : Nat) : Prop := tW L q <:+ s.take e ∧ ∀ r, r < L.length → tW L r <:+ s.take e → (tW L q).length < (tW L r).length → S r
noncomputable def holdB (s : Wd) (L : List Sta) (S : Nat → Prop) (q e : Nat) : Bool := open Classical in decide (holdS s L S q e)
theorem holdB_iff {s : Wd} {L : List Sta} {S : Nat → Prop} {q e : Nat} : holdB s L S q e = true ↔ holdS s L S q e := by unfold holdB; exact @decide_eq_true_iff _ (Classical.propDecidable _)
theorem holdB_yes {s : Wd} {L : List Sta} {S : Nat → Prop} {q e : Nat} (h : holdS s L S q e) : holdB s L S q e = true := holdB_iff.2 h
theorem holdB_no {s : Wd} {L : List Sta} {S : Nat → Prop} {q e : Nat} (h : ¬ holdS s L S q e) : holdB s L S q e = false := by
  cases hb : holdB s L S q e with
  | false => rfl
  | true => exact absurd (holdB_iff.1 hb) h
noncomputable def ecnt (s : Wd) (L : List Sta) (S : Nat → Prop) (q : Nat) : Nat := ((List.range s.length).filter fun e => holdB s L S q (e + 1)).length
theorem ecnt_le (s : Wd) (L : List Sta) (S : Nat → Prop) (q : Nat) : ecnt s L S q ≤ s.length := by
  unfold ecnt
  have h := List.length_filter_le (fun e => holdB s L S q (e + 1)) (List.range s.length)
  rwa [List.length_range] at h
theorem ecnt_same {s : Wd} {L : List Sta} {S T : Nat → Prop} {q : Nat} (h : ∀ e, e < s.length → (holdS s L S q (e + 1) ↔ holdS s L T q (e + 1))) : ecnt s L S q = ecnt s L T q := by
  unfold ecnt
  congr 1
  refine List.filter_congr (fun e he => ?_)
  have h1 := h e (List.mem_range.1 he)
  by_cases h2 : holdS s L S q (e + 1)
  · rw [holdB_yes h2, holdB_yes (h1.1 h2)]
  · rw [holdB_no h2, holdB_no (fun e => h2 (h1.2 e))]
theorem filter_or {α : Type} (A B C : α → Bool) (l : List α) (h : ∀ x ∈ l, C x = (A x || B x) ∧ ¬ (A x = true ∧ B x = true)) : (l.filter C).length = (l.filter A).length + (l.filter B).length := by
  induction l with
  | nil => rfl
  | cons x l ih =>
    have h1 := h x (by simp)
    have h2 := ih (fun y hy => h y (by simp [hy]))
    rw [List.filter_cons, List.filter_cons, List.filter_cons]
    cases ha : A x <;> cases hb : B x <;> rw [ha, hb] at h1 <;> simp at h1 <;> simp [h1, h2] <;> omega
/-- A state hands its count on to its link. -/
theorem ecnt_step {s : Wd} {L : List Sta} (hM : MInv s L) {S : Nat → Prop} {x y : Nat} (hx : x < L.length) (hy : y < L.length) (h0 : 0 < x) (hk : tK L x = (y : Int)) (hnx : ¬ S x) (hlong : ∀ r, r < L.length → (tW L x).length < (tW L r).length → S r) (hshort : ∀ r, r < L.length → (tW L r).length < (tW L x).length → ¬ S r) :
    ecnt s L (fun r => S r ∨ r = x) y = ecnt s L S y + ecnt s L S x ∧ ∀ q, q < L.length → q ≠ y → ecnt s L (fun r => S r ∨ r = x) q = ecnt s L S q := by
  obtain ⟨y', hy', e1, e2, e3, e4⟩ := chain_link hM hx h0
  obtain rfl : y' = y := by omega
  refine ⟨?_, fun q hq hne => ecnt_same fun e he => ?_⟩
  · unfold ecnt
    refine filter_or _ _ _ _ (fun e he => ?_)
    have h1 : holdS s L (fun r => S r ∨ r = x) y' (e + 1) ↔ holdS s L S y' (e + 1) ∨ holdS s L S x (e + 1) := by
      constructor
      · intro h
        by_cases hxe : tW L x <:+ s.take (e + 1)
        · exact .inr ⟨hxe, fun r hr _ h3 => hlong r hr h3⟩
        · refine .inl ⟨h.1, fun r hr h2 h3 => ?_⟩
          rcases h.2 r hr h2 h3 with h4 | rfl
          · exact h4
          · exact absurd h2 hxe
      · rintro (h | h)
        · exact ⟨h.1, fun r hr h2 h3 => .inl (h.2 r hr h2 h3)⟩
        · refine ⟨e2.trans h.1, fun r hr h2 h3 => ?_⟩
          rcases Nat.lt_trichotomy (tW L r).length (tW L x).length with h4 | h4 | h4
          · have h5 := e4 r hr (path_cmp h2 h.1 (by omega)) h4
            omega
          · exact .inr (chain_one hM hr hx h2 h.1 h4)
          · exact .inl (hlong r hr h4)
    have h2 : ¬ (holdS s L S y' (e + 1) ∧ holdS s L S x (e + 1)) := fun h => hnx (h.1.2 x hx h.2.1 e3)
    by_cases ha : holdS s L S y' (e + 1)
    · by_cases hb : holdS s L S x (e + 1)
      · exact absurd ⟨ha, hb⟩ h2
      · rw [holdB_yes ha, holdB_no hb, holdB_yes (h1.2 (.inl ha))]
        exact ⟨rfl, by simp⟩
    · by_cases hb : holdS s L S x (e + 1)
      · rw [holdB_no ha, holdB_yes hb, holdB_yes (h1.2 (.inr hb))]
        exact ⟨rfl, by simp⟩
      · rw [holdB_no ha, holdB_no hb, holdB_no (fun h => by rcases h1.1 h with h | h; exact ha h; exact hb h)]
        exact ⟨rfl, by simp⟩
  · constructor
    · intro h
      refine ⟨h.1, fun r hr h2 h3 => ?_⟩
      rcases h.2 r hr h2 h3 with h4 | rfl
      · exact h4
      · exfalso
        have hys := e2.trans h2
        have h5 : (tW L q).length ≤ (tW L y').length := e4 q hq (path_cmp h.1 h2 (by omega)) h3
        rcases Nat.lt_or_ge (tW L q).length (tW L y').length with h6 | h6
        · rcases h.2 y' hy' hys h6 with h7 | h7
          · exact hshort y' hy' e3 h7
          · rw [h7] at e3; omega
        · exact hne (chain_one hM hq hy' h.1 hys (by omega))
    · intro h
      exact ⟨h.1, fun r hr h2 h3 => .inl (h.2 r hr h2 h3)⟩
/-- In the beginning each beginning of the text counts for its own state. -/
noncomputable def begN (s : Wd) (L : List Sta) (k q : Nat) : Nat := open Classical in if ∃ e, e < k ∧ tW L q = s.take (e + 1) then 1 else 0
theorem beg_zero (s : Wd) (L : List Sta) (q : Nat) : begN s L 0 q = 0 := by
  rw [begN, if_neg]
  rintro ⟨e, he, _⟩
  omega
theorem beg_at {s : Wd} {L : List Sta} {k q : Nat} (h : tW L q = s.take (k + 1)) : begN s L (k + 1) q = 1 := by
  rw [begN, if_pos ⟨k, by omega, h⟩]
theorem beg_other {s : Wd} {L : List Sta} {k q : Nat} (h : tW L q ≠ s.take (k + 1)) : begN s L (k + 1) q = begN s L k q := by
  by_cases h1 : ∃ e, e < k ∧ tW L q = s.take (e + 1)
  · obtain ⟨e, he, h2⟩ := h1
    rw [begN, begN, if_pos ⟨e, by omega, h2⟩, if_pos ⟨e, he, h2⟩]
  · rw [begN, begN, if_neg h1, if_neg]
    rintro ⟨e, he, h2⟩
    by_cases hek : e = k
    · subst hek; exact h h2
    · exact h1 ⟨e, by omega, h2⟩
theorem filter_one {l : List Nat} (h : l.Nodup) {a : Nat} (ha : a ∈ l) : (l.filter fun e => decide (e = a)).length = 1 := by
  induction l with
  | nil => cases ha
  | cons x l ih =>
    rw [List.nodup_cons] at h
    by_cases hx : x = a
    · subst hx
      rw [List.filter_cons, if_pos (by simp), List.filter_eq_nil_iff.2 (fun y hy => by
        have : y ≠ x := fun e => h.1 (by rw [← e]; exact hy)
        simpa using this)]
      rfl
    · rw [List.filter_cons, if_neg (by simpa using hx)]
      exact ih h.2 (by
        rcases List.mem_cons.1 ha with e | e
        · exact absurd e.symm hx
        · exact e)
theorem ecnt_start {s : Wd} {L : List Sta} (hM : MInv s L) {q : Nat} : ecnt s L (fun _ => False) q = begN s L s.length q := by
  have h1 : ∀ e, e < s.length → (holdS s L (fun _ => False) q (e + 1) ↔ tW L q = s.take (e + 1)) := fun e he => by
    constructor
    · rintro ⟨h2, h3⟩
      obtain ⟨i, hi, _, hw⟩ := prefix_state hM (e + 1) (by omega)
      refine h2.eq_of_length (Nat.le_antisymm h2.length_le (Nat.le_of_not_lt fun h4 => ?_))
      exact h3 i hi (by rw [hw]; exact List.suffix_refl _) (by rw [hw]; exact h4)
    · intro h2
      exact ⟨by rw [h2]; exact List.suffix_refl _, fun r _ h3 h4 => by have := h3.length_le; rw [h2] at h4; omega⟩
  by_cases h2 : ∃ e, e < s.length ∧ tW L q = s.take (e + 1)
  · obtain ⟨e, he, h3⟩ := h2
    rw [begN, if_pos ⟨e, he, h3⟩, ecnt]
    rw [show (List.range s.length).filter (fun k => holdB s L (fun _ => False) q (k + 1)) = (List.range s.length).filter (fun k => decide (k = e)) from List.filter_congr (fun k hk => by
      have hk := List.mem_range.1 hk
      refine Bool.eq_iff_iff.2 (holdB_iff.trans ((h1 k hk).trans (Iff.trans ⟨fun h => ?_, fun h => by rw [h]; exact h3⟩ decide_eq_true_iff.symm)))
      have h4 := congrArg List.length (h.symm.trans h3)
      rw [List.length_take, List.length_take] at h4
      omega)]
    exact filter_one List.nodup_range (List.mem_range.2 he)
  · rw [begN, if_neg h2, ecnt, List.filter_eq_nil_iff.2 (fun k hk => by
      have hk := List.mem_range.1 hk
      exact fun h => h2 ⟨k, hk, (h1 k hk).1 (holdB_iff.1 h)⟩)]
    rfl
/-- In the end a state's count is that of the places at which its pieces end. -/
theorem ecnt_end {s : Wd} {L : List Sta} {S : Nat → Prop} {q : Nat} (hS : ∀ r, r < L.length → (tW L q).length < (tW L r).length → S r) {t : Wd} (hs : sameE s t (tW L q)) : ecnt s L S q = howTo s t s.length := by
  unfold ecnt howTo
  congr 1
  refine List.filter_congr (fun e he => ?_)
  have he := List.mem_range.1 he
  refine Bool.eq_iff_iff.2 (holdB_iff.trans (Iff.trans ⟨fun h => (hs (e + 1)).2 ?_, fun h => ⟨?_, fun r hr _ h3 => hS r hr h3⟩⟩ (@decide_eq_true_iff _ (Classical.propDecidable _)).symm))
  · exact ⟨by omega, h.1⟩
  · exact ((hs (e + 1)).1 h).2

end Go.Proofs.Ytehppjilnacjlaa
