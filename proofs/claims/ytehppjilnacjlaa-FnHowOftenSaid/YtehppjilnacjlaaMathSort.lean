/-
  Plain mathematics of merging two rows in order, of the place of a number in a row in order, and of counting pairs by texts. No conditions.
-/
import Derived.Test.YtehppjilnacjlaaMathDocs
namespace Go.Proofs.Ytehppjilnacjlaa

/-- Where a merge of two rows stands. -/
structure GM {α : Type} (r : α → α → Prop) (A B : List α) (i k : Nat) (S : List α) : Prop where
  up : S.Pairwise r
  mem : ∀ x, x ∈ S ↔ x ∈ A.take i ∨ x ∈ B.take k
  lo : ∀ x ∈ S, ∀ h : i < A.length, r x A[i]
  hi : ∀ x ∈ S, ∀ h : k < B.length, r x B[k]

theorem gm_start {α : Type} (r : α → α → Prop) (A B : List α) : GM r A B 0 0 [] := ⟨.nil, by intro x; simp, by intro x hx; simp at hx, by intro x hx; simp at hx⟩
theorem GM.turn {α : Type} {r : α → α → Prop} {A B : List α} {i k : Nat} {S : List α} (h : GM r A B i k S) : GM r B A k i S := ⟨h.up, fun x => (h.mem x).trans or_comm, h.hi, h.lo⟩
theorem gup_at {α : Type} {r : α → α → Prop} {A : List α} (hA : A.Pairwise r) {i j : Nat} (hij : i < j) (hj : j < A.length) : r (A[i]'(by omega)) A[j] := List.pairwise_iff_getElem.1 hA i j (by omega) hj hij
theorem GM.takeA {α : Type} {r : α → α → Prop} (ht : ∀ x y z, r x y → r y z → r x z) {A B : List α} {i k : Nat} {S : List α} (h : GM r A B i k S) (hA : A.Pairwise r) (hi : i < A.length) (hk : ∀ h : k < B.length, r A[i] B[k]) : GM r A B (i + 1) k (S ++ [A[i]]) := by
  refine ⟨?_, fun x => ?_, fun x hx h2 => ?_, fun x hx h2 => ?_⟩
  · rw [List.pairwise_append]
    refine ⟨h.up, List.pairwise_singleton _ _, fun x hx y hy => ?_⟩
    obtain rfl := List.mem_singleton.1 hy
    exact h.lo x hx hi
  · rw [List.mem_append, h.mem, List.mem_singleton, List.take_succ_eq_append_getElem hi, List.mem_append, List.mem_singleton]
    constructor
    · rintro ((h1 | h1) | h1)
      · exact .inl (.inl h1)
      · exact .inr h1
      · exact .inl (.inr h1)
    · rintro ((h1 | h1) | h1)
      · exact .inl (.inl h1)
      · exact .inr h1
      · exact .inl (.inr h1)
  · rcases List.mem_append.1 hx with h1 | h1
    · exact ht _ _ _ (h.lo x h1 hi) (gup_at hA (by omega) h2)
    · obtain rfl := List.mem_singleton.1 h1
      exact gup_at hA (by omega) h2
  · rcases List.mem_append.1 hx with h1 | h1
    · exact h.hi x h1 h2
    · obtain rfl := List.mem_singleton.1 h1
      exact hk h2
theorem GM.takeB {α : Type} {r : α → α → Prop} (ht : ∀ x y z, r x y → r y z → r x z) {A B : List α} {i k : Nat} {S : List α} (h : GM r A B i k S) (hB : B.Pairwise r) (hk : k < B.length) (hi : ∀ h : i < A.length, r B[k] A[i]) : GM r A B i (k + 1) (S ++ [B[k]]) := (h.turn.takeA ht hB hk hi).turn
theorem GM.both {α : Type} {r : α → α → Prop} (ht : ∀ x y z, r x y → r y z → r x z) {A B : List α} {i k : Nat} {S : List α} (h : GM r A B i k S) (hA : A.Pairwise r) (hB : B.Pairwise r) (hi : i < A.length) (hk : k < B.length) (he : A[i] = B[k]) : GM r A B (i + 1) (k + 1) (S ++ [A[i]]) := by
  refine ⟨?_, fun x => ?_, fun x hx h2 => ?_, fun x hx h2 => ?_⟩
  · rw [List.pairwise_append]
    refine ⟨h.up, List.pairwise_singleton _ _, fun x hx y hy => ?_⟩
    obtain rfl := List.mem_singleton.1 hy
    exact h.lo x hx hi
  · rw [List.mem_append, h.mem, List.mem_singleton, List.take_succ_eq_append_getElem hi, List.take_succ_eq_append_getElem hk, List.mem_append, List.mem_singleton, List.mem_append, List.mem_singleton, he]
    constructor
    · rintro ((h1 | h1) | h1)
      · exact .inl (.inl h1)
      · exact .inr (.inl h1)
      · exact .inl (.inr h1)
    · rintro ((h1 | h1) | (h1 | h1))
      · exact .inl (.inl h1)
      · exact .inr h1
      · exact .inl (.inr h1)
      · exact .inr h1
  · rcases List.mem_append.1 hx with h1 | h1
    · exact ht _ _ _ (h.lo x h1 hi) (gup_at hA (by omega) h2)
    · obtain rfl := List.mem_singleton.1 h1
      exact gup_at hA (by omega) h2
  · rcases List.mem_append.1 hx with h1 | h1
    · exact ht _ _ _ (h.hi x h1 hk) (gup_at hB (by omega) h2)
    · obtain rfl := List.mem_singleton.1 h1
      rw [he]
      exact gup_at hB (by omega) h2
theorem gm_rest {α : Type} {r : α → α → Prop} (ht : ∀ x y z, r x y → r y z → r x z) {A : List α} {i : Nat} (hA : A.Pairwise r) {x : α} (hx : ∀ h : i < A.length, r x A[i]) : ∀ y ∈ A.drop i, r x y := by
  intro y hy
  obtain ⟨j, hj, rfl⟩ := List.getElem_of_mem hy
  rw [List.length_drop] at hj
  rw [List.getElem_drop]
  by_cases e : j = 0
  · subst e; exact hx (by omega)
  · exact ht _ _ _ (hx (by omega)) (gup_at hA (by omega) (by omega))
theorem GM.tail {α : Type} {r : α → α → Prop} (ht : ∀ x y z, r x y → r y z → r x z) {A B : List α} {i k : Nat} {S : List α} (h : GM r A B i k S) (hA : A.Pairwise r) (hB : B.Pairwise r) (he : A.length ≤ i ∨ B.length ≤ k) :
    (S ++ A.drop i ++ B.drop k).Pairwise r ∧ ∀ x, x ∈ S ++ A.drop i ++ B.drop k ↔ x ∈ A ++ B := by
  constructor
  · rw [List.pairwise_append, List.pairwise_append]
    refine ⟨⟨h.up, hA.drop, fun x hx => gm_rest ht hA (h.lo x hx)⟩, hB.drop, fun x hx y hy => ?_⟩
    rcases List.mem_append.1 hx with h1 | h1
    · exact gm_rest ht hB (h.hi x h1) y hy
    · rcases he with h2 | h2
      · rw [List.drop_of_length_le h2] at h1; simp at h1
      · rw [List.drop_of_length_le h2] at hy; simp at hy
  · intro x
    have e1 : x ∈ A ↔ x ∈ A.take i ∨ x ∈ A.drop i := by rw [← List.mem_append, List.take_append_drop]
    have e2 : x ∈ B ↔ x ∈ B.take k ∨ x ∈ B.drop k := by rw [← List.mem_append, List.take_append_drop]
    rw [List.mem_append, List.mem_append, List.mem_append, h.mem, e1, e2]
    constructor
    · rintro (((h1 | h1) | h1) | h1)
      · exact .inl (.inl h1)
      · exact .inr (.inl h1)
      · exact .inl (.inr h1)
      · exact .inr (.inr h1)
    · rintro ((h1 | h1) | (h1 | h1))
      · exact .inl (.inl (.inl h1))
      · exact .inl (.inr h1)
      · exact .inl (.inl (.inr h1))
      · exact .inr h1

theorem gmE_done {A B : List En} {i k : Nat} {S : List En} (h : GM enLt A B i k S) (hA : A.Pairwise enLt) (hB : B.Pairwise enLt) (he : A.length ≤ i ∨ B.length ≤ k) : rowE (A ++ B) = S ++ A.drop i ++ B.drop k := by
  have h1 := GM.tail (r := enLt) (fun _ _ _ => enLt_trans) h hA hB he
  exact rowE_of ⟨h1.1, h1.2⟩
theorem gmI_done {A B : List Int} {i k : Nat} {S : List Int} (h : GM ltI A B i k S) (hA : A.Pairwise ltI) (hB : B.Pairwise ltI) (he : A.length ≤ i ∨ B.length ≤ k) : rowI (A ++ B) = S ++ A.drop i ++ B.drop k := by
  have h1 := GM.tail (r := ltI) (fun _ _ _ => ltI_trans) h hA hB he
  exact rowI_of ⟨h1.1, h1.2⟩
theorem rowE_halves (l : List En) (h : Nat) : rowE (rowE (l.take h) ++ rowE (l.drop h)) = rowE l := by
  refine rowE_same fun x => ?_
  rw [List.mem_append, rowE_mem, rowE_mem, ← List.mem_append, List.take_append_drop]
theorem rowI_halves (l : List Int) (h : Nat) : rowI (rowI (l.take h) ++ rowI (l.drop h)) = rowI l := by
  refine rowI_same fun x => ?_
  rw [List.mem_append, rowI_mem, rowI_mem, ← List.mem_append, List.take_append_drop]
theorem rowE_short {l : List En} (h : l.length < 2) : rowE l = l := by
  refine rowE_self ?_
  match l, h with
  | [], _ => exact .nil
  | [x], _ => exact List.pairwise_singleton _ _
theorem rowI_short {l : List Int} (h : l.length < 2) : rowI l = l := by
  refine rowI_self ?_
  match l, h with
  | [], _ => exact .nil
  | [x], _ => exact List.pairwise_singleton _ _

/-- The first place at which a number is not less. -/
def posI (l : List Int) (p : Int) : Nat := l.findIdx (fun x => decide (p ≤ x))
theorem posI_le (l : List Int) (p : Int) : posI l p ≤ l.length := List.findIdx_le_length
theorem posI_lt {l : List Int} {p : Int} {i : Nat} (h : i < posI l p) (hi : i < l.length) : l[i] < p := by
  have h1 := List.not_of_lt_findIdx h
  simp at h1
  exact h1
theorem posI_is {l : List Int} {p : Int} {k : Nat} (hk : k ≤ l.length) (h1 : ∀ i (h : i < l.length), i < k → l[i] < p) (h2 : ∀ h : k < l.length, p ≤ l[k]) : posI l p = k := by
  rcases Nat.lt_trichotomy (posI l p) k with h | h | h
  · have h3 := h1 (posI l p) (by omega) h
    have h4 := List.findIdx_getElem (xs := l) (p := fun x => decide (p ≤ x)) (w := by show posI l p < l.length; omega)
    simp at h4
    have h5 : p ≤ l[posI l p]'(by omega) := h4
    omega
  · exact h
  · have := posI_le l p
    have h3 := posI_lt h (by omega)
    have h4 := h2 (by omega)
    omega

/-- The fingerprints of entries. -/
def prL (l : List En) : List Int := l.map (fun x => x.1)
theorem prL_len (l : List En) : (prL l).length = l.length := by simp [prL]
theorem prL_get (l : List En) (i : Nat) (h : i < l.length) : (prL l)[i]'(by rw [prL_len]; exact h) = l[i].1 := by simp [prL]

/-- Up, and the same may come again. -/
def UpI (P : List Int) : Prop := ∀ i j (hij : i ≤ j) (hj : j < P.length), P[i]'(by omega) ≤ P[j]
theorem upI_pos {P : List Int} (h : UpI P) {p : Int} {k : Nat} (hk : k < P.length) (hp : posI P p ≤ k) : p ≤ P[k] := by
  have h1 : posI P p < P.length := by omega
  have h4 := List.findIdx_getElem (xs := P) (p := fun x => decide (p ≤ x)) (w := h1)
  simp at h4
  have h5 : p ≤ P[posI P p] := h4
  have h6 := h (posI P p) k hp hk
  omega

/-- A row told place by place. -/
def vecI (n : Nat) (f : Nat → Int) : List Int := (List.range n).map f
theorem vecI_len (n : Nat) (f : Nat → Int) : (vecI n f).length = n := by simp [vecI]
theorem vecI_get (n : Nat) (f : Nat → Int) (i : Nat) (h : i < n) : (vecI n f)[i]'(by rw [vecI_len]; exact h) = f i := by simp [vecI]
theorem vecI_same {n : Nat} {f g : Nat → Int} (h : ∀ i, i < n → f i = g i) : vecI n f = vecI n g := by
  unfold vecI
  apply List.map_congr_left
  intro i hi
  exact h i (by simpa using hi)
theorem vecI_set {n : Nat} {f g : Nat → Int} {i : Nat} {v : Int} (hv : g i = v) (h : ∀ j, j < n → j ≠ i → g j = f j) : (vecI n f).set i v = vecI n g := by
  apply List.ext_getElem
  · rw [List.length_set, vecI_len, vecI_len]
  · intro j h1 h2
    rw [vecI_len] at h2
    rw [List.getElem_set]
    split
    · rename_i e; subst e; rw [vecI_get _ _ _ h2, hv]
    · rename_i e; rw [vecI_get _ _ _ h2, vecI_get _ _ _ h2, h j h2 (fun e2 => e e2.symm)]
theorem vecI_zero (n : Nat) : vecI n (fun _ => 0) = List.replicate n 0 := by
  apply List.ext_getElem
  · rw [vecI_len, List.length_replicate]
  · intro i h1 h2; rw [vecI_len] at h1; rw [vecI_get _ _ _ h1, List.getElem_replicate]

/-- How many marks have a fingerprint. -/
def cM (M : List (Int × Int)) (p : Int) : Nat := (M.filter (fun m => m.1 == p)).length
theorem cM_len (M : List (Int × Int)) (p : Int) : cM M p ≤ M.length := List.length_filter_le _ _
theorem cM_snoc {M : List (Int × Int)} {j : Nat} (hj : j < M.length) (p : Int) : cM (M.take (j + 1)) p = cM (M.take j) p + (if M[j].1 = p then 1 else 0) := by
  rw [cM, cM, List.take_succ_eq_append_getElem hj, List.filter_append, List.length_append]
  by_cases h : M[j].1 = p
  · rw [if_pos h]; simp [h]
  · rw [if_neg h]; simp [h]

/-- What is counted at the first entry of each fingerprint. -/
def t1 (P : List Int) (M : List (Int × Int)) (i : Nat) : Int := if posI P (P.getD i 0) = i then (cM M (P.getD i 0) : Int) else 0
theorem getD_at (P : List Int) (i : Nat) (h : i < P.length) : P.getD i 0 = P[i] := by simp [h]
theorem t1_zero (P : List Int) (i : Nat) : t1 P [] i = 0 := by unfold t1; split <;> simp [cM]
theorem t1_hit {P : List Int} {M : List (Int × Int)} {j : Nat} (hj : j < M.length) {p : Int} (hp : M[j].1 = p) (ha : posI P p < P.length) (he : P[posI P p] = p) :
    t1 P (M.take (j + 1)) (posI P p) = t1 P (M.take j) (posI P p) + 1 ∧ ∀ i, i < P.length → i ≠ posI P p → t1 P (M.take (j + 1)) i = t1 P (M.take j) i := by
  constructor
  · have e : P.getD (posI P p) 0 = p := by rw [getD_at _ _ ha, he]
    unfold t1
    rw [e, if_pos rfl, if_pos rfl, cM_snoc hj, if_pos hp]
    omega
  · intro i hi hne
    unfold t1
    split
    · rename_i h1
      rw [cM_snoc hj, if_neg (fun h2 => hne (by rw [← hp, h2]; exact h1.symm))]
      omega
    · rfl
theorem t1_miss {P : List Int} (hU : UpI P) {M : List (Int × Int)} {j : Nat} (hj : j < M.length) {p : Int} (hp : M[j].1 = p) (h : ∀ ha : posI P p < P.length, P[posI P p] ≠ p) :
    ∀ i, i < P.length → t1 P (M.take (j + 1)) i = t1 P (M.take j) i := by
  intro i hi
  have hne : ¬ P[i] = p := by
    intro e
    by_cases h1 : i < posI P p
    · have := posI_lt h1 hi; omega
    · have h2 : posI P p < P.length := by omega
      have h3 := upI_pos hU h2 (Nat.le_refl _)
      have h4 := hU (posI P p) i (by omega) hi
      exact h h2 (by omega)
  unfold t1
  rw [getD_at _ _ hi]
  split
  · rw [cM_snoc hj, if_neg (fun h2 => hne (by rw [← hp, h2]))]
    omega
  · rfl

/-- What is counted behind the second loop has come so far. -/
def t2 (P : List Int) (M : List (Int × Int)) (k i : Nat) : Int := if i < k then (cM M (P.getD i 0) : Int) else t1 P M i
theorem t2_one {P : List Int} (M : List (Int × Int)) (i : Nat) (hi : i < P.length) : t2 P M 1 i = t1 P M i := by
  unfold t2
  split
  · obtain rfl : i = 0 := by omega
    unfold t1
    rw [if_pos]
    refine posI_is (Nat.zero_le _) (fun j _ hj => absurd hj (Nat.not_lt_zero _)) (fun h => by rw [getD_at _ _ hi]; exact Int.le_refl _)
  · rfl
theorem t2_same {P : List Int} {M : List (Int × Int)} {k : Nat} (hk : k + 1 < P.length) (h : P[k + 1] = P[k]) : t2 P M (k + 2) (k + 1) = t2 P M (k + 1) k ∧ ∀ i, i < P.length → i ≠ k + 1 → t2 P M (k + 2) i = t2 P M (k + 1) i := by
  constructor
  · unfold t2
    rw [if_pos (by omega), if_pos (by omega), getD_at _ _ hk, getD_at _ _ (by omega), h]
  · intro i hi hne
    unfold t2
    by_cases h1 : i < k + 1
    · rw [if_pos h1, if_pos (by omega)]
    · rw [if_neg h1, if_neg (by omega)]
theorem t2_new {P : List Int} (hU : UpI P) {M : List (Int × Int)} {k : Nat} (hk : k + 1 < P.length) (h : ¬ P[k + 1] = P[k]) : ∀ i, i < P.length → t2 P M (k + 2) i = t2 P M (k + 1) i := by
  intro i hi
  unfold t2
  by_cases h1 : i < k + 1
  · rw [if_pos h1, if_pos (by omega)]
  · rw [if_neg h1]
    by_cases h2 : i = k + 1
    · subst h2
      rw [if_pos (by omega)]
      unfold t1
      rw [if_pos]
      refine posI_is (by omega) (fun j hj hjk => ?_) (fun h => by rw [getD_at _ _ hi]; exact Int.le_refl _)
      rw [getD_at _ _ hi]
      have h3 := hU j k (by omega) (by omega)
      have h4 := hU k (k + 1) (by omega) hk
      omega
    · rw [if_neg (by omega)]

/-- How often pairs of entries of a text and marks have one fingerprint, entry by entry. -/
def sD (l : List En) (M : List (Int × Int)) (d : Int) : Nat := ((l.filter (fun x => x.2.1 == d)).map (fun x => cM M x.1)).sum
theorem sD_snoc {l : List En} (M : List (Int × Int)) {i : Nat} (hi : i < l.length) (d : Int) : sD (l.take (i + 1)) M d = sD (l.take i) M d + (if l[i].2.1 = d then cM M l[i].1 else 0) := by
  rw [sD, sD, List.take_succ_eq_append_getElem hi, List.filter_append, List.map_append, List.sum_append]
  by_cases h : l[i].2.1 = d
  · rw [if_pos h]; simp [h]
  · rw [if_neg h]; simp [h]
theorem sD_nil (l : List En) (d : Int) : sD l [] d = 0 := by
  unfold sD
  induction l with
  | nil => rfl
  | cons x l ih => rw [List.filter_cons]; split <;> simp_all [cM]
theorem cM_cons (m : Int × Int) (M : List (Int × Int)) (p : Int) : cM (m :: M) p = (if p = m.1 then 1 else 0) + cM M p := by
  unfold cM
  rw [List.filter_cons]
  by_cases h : p = m.1
  · subst h; simp; omega
  · rw [if_neg h]
    have : (m.1 == p) = false := by simp; omega
    simp [this]
theorem sD_cons (l : List En) (m : Int × Int) (M : List (Int × Int)) (d : Int) : sD l (m :: M) d = ((l.filter (fun x => x.1 == m.1)).filter (fun x => x.2.1 == d)).length + sD l M d := by
  unfold sD
  induction l with
  | nil => rfl
  | cons x l ih =>
    rw [List.filter_cons, List.filter_cons]
    by_cases h1 : x.2.1 = d
    · have h2 : (x.2.1 == d) = true := by simpa using h1
      rw [if_pos h2, List.map_cons, List.map_cons, List.sum_cons, List.sum_cons, ih, cM_cons]
      by_cases h3 : x.1 = m.1
      · have h4 : (x.1 == m.1) = true := by simpa using h3
        rw [if_pos h3, if_pos h4, List.filter_cons, if_pos h2, List.length_cons]; omega
      · have h4 : ¬ (x.1 == m.1) = true := by simpa using h3
        rw [if_neg h3, if_neg h4]; omega
    · have h2 : ¬ (x.2.1 == d) = true := by simpa using h1
      rw [if_neg h2, ih]
      by_cases h4 : (x.1 == m.1) = true
      · rw [if_pos h4, List.filter_cons, if_neg h2]
      · rw [if_neg h4]
theorem sD_le (l : List En) (M : List (Int × Int)) (d : Int) : sD l M d ≤ l.length * M.length := by
  unfold sD
  induction l with
  | nil => simp
  | cons x l ih =>
    rw [List.filter_cons, List.length_cons, Nat.add_mul, Nat.one_mul]
    split
    · rw [List.map_cons, List.sum_cons]
      have := cM_len M x.1
      omega
    · omega

/-- A number of a row in order stands at its place. -/
theorem posI_mem {D : List Int} (hD : D.Pairwise ltI) {i : Nat} (hi : i < D.length) : posI D D[i] = i :=
  posI_is (by omega) (fun j hj hji => by
    have := gup_at hD hji hi
    unfold ltI at this; exact this) (fun _ => Int.le_refl _)

end Go.Proofs.Ytehppjilnacjlaa
