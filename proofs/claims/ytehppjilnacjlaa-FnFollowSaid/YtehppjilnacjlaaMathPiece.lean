/-
  Plain mathematics of pieces that two texts have in common: how far they go back and on, all of them in order, which of them has given places, and the longest one. No conditions.
-/
import Init.Data.List.Lemmas
import Init.Data.List.Pairwise
import Init.Omega
import Derived.Test.YtehppjilnacjlaaMathShelf
namespace Go.Proofs.Ytehppjilnacjlaa

/-- The byte at a place. -/
def bt (s : ByteArray) (i : Nat) : Nat := if h : i < s.size then (s[i]'h).toNat else 256
theorem bt_at {s : ByteArray} {i : Nat} (h : i < s.size) : bt s i = s[i].toNat := by rw [bt, dif_pos h]
/-- The same byte at both places. -/
def sm (s t : ByteArray) (i j : Nat) : Prop := i < s.size ∧ j < t.size ∧ bt s i = bt t j
instance (s t : ByteArray) (i j : Nat) : Decidable (sm s t i j) := by unfold sm; infer_instance
theorem sm_turn {s t : ByteArray} {i j : Nat} : sm s t i j ↔ sm t s j i := by unfold sm; omega
theorem sm_self {s : ByteArray} {i : Nat} (h : i < s.size) : sm s s i i := ⟨h, h, rfl⟩

/-- How many bytes ahead of both places are the same. -/
def backP (s t : ByteArray) : Nat → Nat → Nat
  | i + 1, j + 1 => if sm s t i j then backP s t i j + 1 else 0
  | _, _ => 0
theorem backP_yes {s t : ByteArray} {i j : Nat} (h : sm s t i j) : backP s t (i + 1) (j + 1) = backP s t i j + 1 := by rw [backP, if_pos h]
theorem backP_no {s t : ByteArray} {i j : Nat} (h : ¬ sm s t i j) : backP s t (i + 1) (j + 1) = 0 := by rw [backP, if_neg h]
theorem backP_left (s t : ByteArray) (j : Nat) : backP s t 0 j = 0 := by cases j <;> rfl
theorem backP_right (s t : ByteArray) (i : Nat) : backP s t i 0 = 0 := by cases i <;> rfl
theorem backP_le (s t : ByteArray) (i j : Nat) : backP s t i j ≤ i ∧ backP s t i j ≤ j := by
  induction i generalizing j with
  | zero => rw [backP_left]; omega
  | succ i ih =>
    cases j with
    | zero => rw [backP_right]; omega
    | succ j =>
      by_cases h : sm s t i j
      · rw [backP_yes h]; have := ih j; omega
      · rw [backP_no h]; omega
/-- Steps back: as long as bytes are the same. -/
theorem backP_step {s t : ByteArray} {i j : Nat} (hi : 0 < i) (hj : 0 < j) (h : sm s t (i - 1) (j - 1)) : backP s t i j = backP s t (i - 1) (j - 1) + 1 := by
  obtain ⟨i, rfl⟩ : ∃ k, i = k + 1 := ⟨i - 1, by omega⟩
  obtain ⟨j, rfl⟩ : ∃ k, j = k + 1 := ⟨j - 1, by omega⟩
  exact backP_yes h
theorem backP_stop {s t : ByteArray} {i j : Nat} (h : ¬ (0 < i ∧ 0 < j ∧ sm s t (i - 1) (j - 1))) : backP s t i j = 0 := by
  cases i with
  | zero => exact backP_left s t j
  | succ i =>
    cases j with
    | zero => exact backP_right s t _
    | succ j => exact backP_no (fun e => h ⟨by omega, by omega, e⟩)
/-- On a diagonal: d bytes the same behind a beginning. -/
theorem backP_on {s t : ByteArray} {i j : Nat} (d : Nat) (h : ∀ k, k < d → sm s t (i + k) (j + k)) : backP s t (i + d) (j + d) = backP s t i j + d := by
  induction d with
  | zero => rfl
  | succ d ih =>
    have h1 := backP_yes (h d (by omega))
    rw [ih (fun k hk => h k (by omega))] at h1
    rw [← Nat.add_assoc, ← Nat.add_assoc, h1]
    omega
theorem backP_same (s t : ByteArray) (i j : Nat) : ∀ k, k < backP s t i j → sm s t (i - backP s t i j + k) (j - backP s t i j + k) := by
  induction i generalizing j with
  | zero => rw [backP_left]; intro k hk; omega
  | succ i ih =>
    cases j with
    | zero => rw [backP_right]; intro k hk; omega
    | succ j =>
      by_cases h : sm s t i j
      · rw [backP_yes h]
        have hle := backP_le s t i j
        intro k hk
        rw [show i + 1 - (backP s t i j + 1) = i - backP s t i j by omega, show j + 1 - (backP s t i j + 1) = j - backP s t i j by omega]
        by_cases hk2 : k < backP s t i j
        · exact ih j k hk2
        · rw [show i - backP s t i j + k = i by omega, show j - backP s t i j + k = j by omega]
          exact h
      · rw [backP_no h]; intro k hk; omega
theorem backP_first (s t : ByteArray) (i j : Nat) : backP s t (i - backP s t i j) (j - backP s t i j) = 0 := by
  have h1 := backP_le s t i j
  have h2 := backP_on (s := s) (t := t) (i := i - backP s t i j) (j := j - backP s t i j) (backP s t i j) (backP_same s t i j)
  rw [show i - backP s t i j + backP s t i j = i by omega, show j - backP s t i j + backP s t i j = j by omega] at h2
  omega

/-- How many bytes from both places on are the same. -/
def runF (s t : ByteArray) : Nat → Nat → Nat → Nat
  | 0, _, _ => 0
  | f + 1, i, j => if sm s t i j then runF s t f (i + 1) (j + 1) + 1 else 0
def runP (s t : ByteArray) (i j : Nat) : Nat := runF s t s.size i j
theorem runF_le (s t : ByteArray) (f i j : Nat) : runF s t f i j ≤ f := by
  induction f generalizing i j with
  | zero => exact Nat.le_refl _
  | succ f ih =>
    rw [runF]
    split
    · have := ih (i + 1) (j + 1); omega
    · omega
theorem runF_same (s t : ByteArray) (f i j : Nat) : ∀ k, k < runF s t f i j → sm s t (i + k) (j + k) := by
  induction f generalizing i j with
  | zero => intro k hk; simp [runF] at hk
  | succ f ih =>
    intro k hk
    rw [runF] at hk
    split at hk
    · rename_i h
      cases k with
      | zero => exact h
      | succ k =>
        have h1 := ih (i + 1) (j + 1) k (by omega)
        rw [show i + (k + 1) = i + 1 + k by omega, show j + (k + 1) = j + 1 + k by omega]
        exact h1
    · omega
theorem runF_stop (s t : ByteArray) (f i j : Nat) (hf : s.size ≤ i + f) : ¬ sm s t (i + runF s t f i j) (j + runF s t f i j) := by
  induction f generalizing i j with
  | zero =>
    intro h
    have := h.1
    simp [runF] at this
    omega
  | succ f ih =>
    rw [runF]
    split
    · have h1 := ih (i + 1) (j + 1) (by omega)
      rw [show i + (runF s t f (i + 1) (j + 1) + 1) = i + 1 + runF s t f (i + 1) (j + 1) by omega, show j + (runF s t f (i + 1) (j + 1) + 1) = j + 1 + runF s t f (i + 1) (j + 1) by omega]
      exact h1
    · rename_i h
      exact h
theorem runP_same (s t : ByteArray) (i j : Nat) : ∀ k, k < runP s t i j → sm s t (i + k) (j + k) := runF_same s t _ i j
theorem runP_stop (s t : ByteArray) (i j : Nat) : ¬ sm s t (i + runP s t i j) (j + runP s t i j) := runF_stop s t _ i j (by omega)
theorem runP_is {s t : ByteArray} {i j L : Nat} (h1 : ∀ k, k < L → sm s t (i + k) (j + k)) (h2 : ¬ sm s t (i + L) (j + L)) : runP s t i j = L := by
  rcases Nat.lt_trichotomy (runP s t i j) L with h | h | h
  · exact absurd (h1 _ h) (runP_stop s t i j)
  · exact h
  · exact absurd (runP_same s t i j _ h) h2
theorem runP_ge {s t : ByteArray} {i j L : Nat} (h1 : ∀ k, k < L → sm s t (i + k) (j + k)) : L ≤ runP s t i j := by
  rcases Nat.lt_or_ge (runP s t i j) L with h | h
  · exact absurd (h1 _ h) (runP_stop s t i j)
  · exact h
theorem runP_zero {s t : ByteArray} {i j : Nat} (h : ¬ sm s t i j) : runP s t i j = 0 := runP_is (fun k hk => absurd hk (by omega)) h
theorem runP_pos {s t : ByteArray} {i j : Nat} (h : sm s t i j) : 1 ≤ runP s t i j := runP_ge (fun k hk => by
  obtain rfl : k = 0 := by omega
  exact h)
theorem runP_room (s t : ByteArray) (i j : Nat) (hi : i ≤ s.size) (hj : j ≤ t.size) : i + runP s t i j ≤ s.size ∧ j + runP s t i j ≤ t.size := by
  by_cases h : runP s t i j = 0
  · rw [h]; omega
  · have h1 := runP_same s t i j (runP s t i j - 1) (by omega)
    have := h1.1
    have := h1.2.1
    omega
theorem runP_on {s t : ByteArray} {i j : Nat} (d : Nat) (h : ∀ k, k < d → sm s t (i + k) (j + k)) : runP s t i j = d + runP s t (i + d) (j + d) := by
  refine runP_is (fun k hk => ?_) ?_
  · by_cases hkd : k < d
    · exact h k hkd
    · have h1 := runP_same s t (i + d) (j + d) (k - d) (by omega)
      rw [show i + d + (k - d) = i + k by omega, show j + d + (k - d) = j + k by omega] at h1
      exact h1
  · have h1 := runP_stop s t (i + d) (j + d)
    rw [show i + d + runP s t (i + d) (j + d) = i + (d + runP s t (i + d) (j + d)) by omega, show j + d + runP s t (i + d) (j + d) = j + (d + runP s t (i + d) (j + d)) by omega] at h1
    exact h1
theorem runP_turn (s t : ByteArray) (i j : Nat) : runP s t i j = runP t s j i := runP_is (fun k hk => sm_turn.1 (runP_same t s j i k hk)) (fun h => runP_stop t s j i (sm_turn.1 h))
theorem backP_turn (s t : ByteArray) (i j : Nat) : backP s t i j = backP t s j i := by
  induction i generalizing j with
  | zero => rw [backP_left, backP_right]
  | succ i ih =>
    cases j with
    | zero => rw [backP_left, backP_right]
    | succ j =>
      by_cases h : sm s t i j
      · rw [backP_yes h, backP_yes (sm_turn.1 h), ih j]
      · rw [backP_no h, backP_no (fun e => h (sm_turn.2 e))]
theorem runP_back (s t : ByteArray) (i j : Nat) : runP s t (i - backP s t i j) (j - backP s t i j) = backP s t i j + runP s t i j := by
  have h1 := backP_le s t i j
  have h2 := runP_on (s := s) (t := t) (i := i - backP s t i j) (j := j - backP s t i j) (backP s t i j) (backP_same s t i j)
  rw [show i - backP s t i j + backP s t i j = i by omega, show j - backP s t i j + backP s t i j = j by omega] at h2
  exact h2
theorem runP_self (s : ByteArray) : runP s s 0 0 = s.size := runP_is (fun k hk => by rw [Nat.zero_add]; exact sm_self hk) (fun h => by have := h.1; omega)

/-- GrowPiece. -/
def growN (s t : ByteArray) (i j : Nat) : En := (((i - backP s t i j : Nat) : Int), ((j - backP s t i j : Nat) : Int), ((runP s t (i - backP s t i j) (j - backP s t i j) : Nat) : Int))
def growT (s t : ByteArray) (i j : Int) : En × Bool := if 0 ≤ i ∧ 0 ≤ j ∧ sm s t i.toNat j.toNat then (growN s t i.toNat j.toNat, true) else ((0, 0, 0), false)
theorem growT_yes {s t : ByteArray} {i j : Nat} (h : sm s t i j) : growT s t i j = (growN s t i j, true) := by
  rw [growT, if_pos ⟨by omega, by omega, by rw [Int.toNat_natCast, Int.toNat_natCast]; exact h⟩, Int.toNat_natCast, Int.toNat_natCast]
theorem growT_no {s t : ByteArray} {i j : Int} (h : ¬ (0 ≤ i ∧ 0 ≤ j ∧ sm s t i.toNat j.toNat)) : growT s t i j = ((0, 0, 0), false) := by rw [growT, if_neg h]
/-- From each of its places the same one grows. -/
theorem growN_same {s t : ByteArray} {i j k : Nat} (hk : k < runP s t (i - backP s t i j) (j - backP s t i j)) :
    sm s t (i - backP s t i j + k) (j - backP s t i j + k) ∧ growN s t (i - backP s t i j + k) (j - backP s t i j + k) = growN s t i j := by
  have h1 := runP_same s t _ _ k hk
  refine ⟨h1, ?_⟩
  have h2 := backP_on (s := s) (t := t) (i := i - backP s t i j) (j := j - backP s t i j) k (fun q hq => runP_same s t _ _ q (by omega))
  rw [backP_first, Nat.zero_add] at h2
  rw [growN, h2, Nat.add_sub_cancel, Nat.add_sub_cancel]
  rfl

/-- PieceOk. -/
def okP (s t : ByteArray) (p : En) : Prop := 0 ≤ p.1 ∧ 0 ≤ p.2.1 ∧ 1 ≤ p.2.2 ∧ p.1 + p.2.2 ≤ s.size ∧ p.2.1 + p.2.2 ≤ t.size ∧ p.2.2.toNat ≤ runP s t p.1.toNat p.2.1.toNat
instance (s t : ByteArray) (p : En) : Decidable (okP s t p) := by unfold okP; infer_instance
theorem okP_iff {s t : ByteArray} {x y z : Int} : okP s t (x, y, z) ↔ 0 ≤ x ∧ 0 ≤ y ∧ 1 ≤ z ∧ x + z ≤ s.size ∧ y + z ≤ t.size ∧ z.toNat ≤ runP s t x.toNat y.toNat := Iff.rfl
theorem extract_same {s t : ByteArray} {i j n : Nat} (hi : i + n ≤ s.size) (hj : j + n ≤ t.size) : s.extract i (i + n) = t.extract j (j + n) ↔ n ≤ runP s t i j := by
  have hs : (s.extract i (i + n)).size = n := by rw [ByteArray.size_extract]; omega
  have ht : (t.extract j (j + n)).size = n := by rw [ByteArray.size_extract]; omega
  constructor
  · intro h
    refine runP_ge fun k hk => ⟨by omega, by omega, ?_⟩
    have h1 : (s.extract i (i + n))[k]'(by omega) = (t.extract j (j + n))[k]'(by omega) := by simp only [h]
    rw [ByteArray.getElem_extract, ByteArray.getElem_extract] at h1
    rw [bt_at (by omega), bt_at (by omega), h1]
  · intro h
    apply ByteArray.ext_getElem (by rw [hs, ht])
    intro k h1 h2
    rw [ByteArray.getElem_extract, ByteArray.getElem_extract]
    have h3 := (runP_same s t i j k (by omega)).2.2
    rw [bt_at (by omega), bt_at (by omega)] at h3
    exact UInt8.toNat_inj.1 h3

/-- PieceHas. -/
def hasP (p : En) (i j n : Int) : Prop := (0 ≤ p.1 ∧ 0 ≤ p.2.1 ∧ 0 ≤ p.2.2 ∧ 0 ≤ i ∧ 0 ≤ j) ∧ 1 ≤ n ∧ p.1 ≤ i ∧ i - p.1 ≤ p.2.2 ∧ n ≤ p.2.2 - (i - p.1) ∧ j - p.2.1 = i - p.1 ∧ p.2.1 ≤ j
instance (p : En) (i j n : Int) : Decidable (hasP p i j n) := by unfold hasP; infer_instance

/-- PiecesOf: the one that begins at a place in each, if it can not be made longer and has bytes enough. -/
def startP (s t : ByteArray) (n i j : Nat) : Prop := sm s t i j ∧ backP s t i j = 0 ∧ n ≤ runP s t i j
instance (s t : ByteArray) (n i j : Nat) : Decidable (startP s t n i j) := by unfold startP; infer_instance
def pieceN (s t : ByteArray) (i j : Nat) : En := ((i : Int), (j : Int), ((runP s t i j : Nat) : Int))
def rowP (s t : ByteArray) (n i m : Nat) : List En := (List.range m).filterMap fun j => if startP s t n i j then some (pieceN s t i j) else none
def piecesN (s t : ByteArray) (n k : Nat) : List En := (List.range k).flatMap fun i => rowP s t n i t.size
def piecesT (s t : ByteArray) (n : Int) : List En := if n < 1 then [] else piecesN s t n.toNat s.size
theorem rowP_zero (s t : ByteArray) (n i : Nat) : rowP s t n i 0 = [] := rfl
theorem rowP_yes {s t : ByteArray} {n i m : Nat} (h : startP s t n i m) : rowP s t n i (m + 1) = rowP s t n i m ++ [pieceN s t i m] := by
  rw [rowP, List.range_succ, List.filterMap_append, List.filterMap_cons, if_pos h]; rfl
theorem rowP_no {s t : ByteArray} {n i m : Nat} (h : ¬ startP s t n i m) : rowP s t n i (m + 1) = rowP s t n i m := by
  rw [rowP, List.range_succ, List.filterMap_append, List.filterMap_cons, if_neg h]; simp [rowP]
theorem rowP_len (s t : ByteArray) (n i m : Nat) : (rowP s t n i m).length ≤ m := by
  induction m with
  | zero => exact Nat.le_refl _
  | succ m ih =>
    by_cases h : startP s t n i m
    · rw [rowP_yes h, List.length_append, List.length_singleton]; omega
    · rw [rowP_no h]; omega
theorem piecesN_zero (s t : ByteArray) (n : Nat) : piecesN s t n 0 = [] := rfl
theorem piecesN_next (s t : ByteArray) (n k : Nat) : piecesN s t n (k + 1) = piecesN s t n k ++ rowP s t n k t.size := by
  rw [piecesN, List.range_succ, List.flatMap_append]; simp [piecesN]
theorem piecesN_len (s t : ByteArray) (n k : Nat) : (piecesN s t n k).length ≤ k * t.size := by
  induction k with
  | zero => exact Nat.zero_le _
  | succ k ih =>
    rw [piecesN_next, List.length_append, Nat.succ_mul]
    have := rowP_len s t n k t.size
    omega
theorem piecesT_bad {s t : ByteArray} {n : Int} (h : n < 1) : piecesT s t n = [] := by rw [piecesT, if_pos h]
theorem piecesT_nat {s t : ByteArray} {n : Nat} (h : 1 ≤ n) : piecesT s t n = piecesN s t n s.size := by rw [piecesT, if_neg (by omega), Int.toNat_natCast]
theorem rowP_mem {s t : ByteArray} {n i m : Nat} {x : En} : x ∈ rowP s t n i m ↔ ∃ j, j < m ∧ startP s t n i j ∧ x = pieceN s t i j := by
  rw [rowP, List.mem_filterMap]
  constructor
  · rintro ⟨j, hj, h⟩
    split at h
    · rename_i h2
      injection h with h
      exact ⟨j, List.mem_range.1 hj, h2, h.symm⟩
    · cases h
  · rintro ⟨j, hj, h, rfl⟩
    exact ⟨j, List.mem_range.2 hj, by rw [if_pos h]⟩
theorem piecesN_mem {s t : ByteArray} {n k : Nat} {x : En} : x ∈ piecesN s t n k ↔ ∃ i j, i < k ∧ startP s t n i j ∧ x = pieceN s t i j := by
  rw [piecesN, List.mem_flatMap]
  constructor
  · rintro ⟨i, hi, h⟩
    obtain ⟨j, _, h2, h3⟩ := rowP_mem.1 h
    exact ⟨i, j, List.mem_range.1 hi, h2, h3⟩
  · rintro ⟨i, j, hi, h, rfl⟩
    exact ⟨i, List.mem_range.2 hi, rowP_mem.2 ⟨j, h.1.2.1, h, rfl⟩⟩
/-- All pieces of n bytes or more. -/
theorem pieces_mem {s t : ByteArray} {n : Nat} (hn : 1 ≤ n) {x : En} : x ∈ piecesT s t n ↔ ∃ i j, startP s t n i j ∧ x = pieceN s t i j := by
  rw [piecesT_nat hn, piecesN_mem]
  constructor
  · rintro ⟨i, j, _, h, h2⟩; exact ⟨i, j, h, h2⟩
  · rintro ⟨i, j, h, h2⟩; exact ⟨i, j, h.1.1, h, h2⟩
theorem rowP_up (s t : ByteArray) (n i m : Nat) : (rowP s t n i m).Pairwise enLt := by
  induction m with
  | zero => exact .nil
  | succ m ih =>
    by_cases h : startP s t n i m
    · rw [rowP_yes h, List.pairwise_append]
      refine ⟨ih, List.pairwise_singleton _ _, fun x hx y hy => ?_⟩
      obtain ⟨j, hj, _, rfl⟩ := rowP_mem.1 hx
      rw [List.mem_singleton] at hy
      subst hy
      exact .inr ⟨rfl, .inl (by simp only [pieceN]; omega)⟩
    · rw [rowP_no h]; exact ih
theorem piecesN_up (s t : ByteArray) (n k : Nat) : (piecesN s t n k).Pairwise enLt := by
  induction k with
  | zero => exact .nil
  | succ k ih =>
    rw [piecesN_next, List.pairwise_append]
    refine ⟨ih, rowP_up s t n k _, fun x hx y hy => ?_⟩
    obtain ⟨i, j, hi, _, rfl⟩ := piecesN_mem.1 hx
    obtain ⟨j2, _, _, rfl⟩ := rowP_mem.1 hy
    exact .inl (by simp only [pieceN]; omega)
theorem pieces_up (s t : ByteArray) (n : Int) : (piecesT s t n).Pairwise enLt := by
  unfold piecesT
  split
  · exact .nil
  · exact piecesN_up s t _ _

/-- Which piece has n bytes from given places on. -/
theorem has_iff {s t : ByteArray} {i j n A B : Nat} (hn : 1 ≤ n) (hs : sm s t A B) (hb : backP s t A B = 0) :
    hasP (pieceN s t A B) i j n ↔ A = i - backP s t i j ∧ B = j - backP s t i j ∧ n ≤ runP s t i j := by
  simp only [hasP, pieceN]
  constructor
  · rintro ⟨_, _, h1, h2, h3, h4, h5⟩
    obtain ⟨d, rfl⟩ : ∃ d, i = A + d := ⟨i - A, by omega⟩
    obtain rfl : j = B + d := by omega
    have hd : d ≤ runP s t A B := by omega
    have h6 := backP_on (s := s) (t := t) (i := A) (j := B) d (fun q hq => runP_same s t A B q (by omega))
    have h7 := runP_on (s := s) (t := t) (i := A) (j := B) d (fun q hq => runP_same s t A B q (by omega))
    rw [hb] at h6
    rw [h6]
    omega
  · rintro ⟨rfl, rfl, h3⟩
    have h1 := backP_le s t i j
    have h2 := runP_back s t i j
    rw [h2]
    omega
theorem pairwise_one {α : Type} {l : List α} {P : α → Bool} (hp : l.Pairwise (· ≠ ·)) {x : α} (hx : x ∈ l) (h1 : P x = true) (h2 : ∀ y ∈ l, P y = true → y = x) : (l.filter P).length = 1 := by
  induction l with
  | nil => cases hx
  | cons y l ih =>
    rw [List.pairwise_cons] at hp
    by_cases hy : P y = true
    · have e := h2 y (by simp) hy
      subst e
      rw [List.filter_cons_of_pos hy, List.length_cons]
      have h3 : l.filter P = [] := by
        rw [List.filter_eq_nil_iff]
        intro z hz hPz
        have := h2 z (by simp [hz]) hPz
        exact hp.1 z hz this.symm
      rw [h3]; rfl
    · rw [List.filter_cons_of_neg hy]
      rcases List.mem_cons.1 hx with rfl | hx
      · exact absurd h1 hy
      · exact ih hp.2 hx (fun z hz hPz => h2 z (by simp [hz]) hPz)
/-- How many pieces have n bytes from given places on: one, if they are the same. -/
theorem many_one {s t : ByteArray} {n i j : Nat} (hn : 1 ≤ n) (h : n ≤ runP s t i j) : ((piecesT s t n).filter fun p => decide (hasP p i j n)).length = 1 := by
  have hsm : sm s t i j := by
    have h1 := runP_same s t i j 0 (by omega)
    exact h1
  have hst : startP s t n (i - backP s t i j) (j - backP s t i j) := by
    refine ⟨?_, backP_first s t i j, by rw [runP_back]; omega⟩
    by_cases hb : backP s t i j = 0
    · rw [hb]; exact hsm
    · exact backP_same s t i j 0 (by omega)
  refine pairwise_one (x := pieceN s t (i - backP s t i j) (j - backP s t i j)) ?_ ((pieces_mem hn).2 ⟨_, _, hst, rfl⟩) ?_ ?_
  · refine List.Pairwise.imp ?_ (pieces_up s t n)
    intro x y hxy e
    subst e
    exact enLt_irrefl _ hxy
  · rw [decide_eq_true_iff]
    exact (has_iff hn hst.1 hst.2.1).2 ⟨rfl, rfl, h⟩
  · intro y hy hP
    rw [decide_eq_true_iff] at hP
    obtain ⟨A, B, hs, rfl⟩ := (pieces_mem hn).1 hy
    obtain ⟨e1, e2, _⟩ := (has_iff hn hs.1 hs.2.1).1 hP
    rw [← e1, ← e2]
theorem many_none {s t : ByteArray} {n i j : Nat} (hn : 1 ≤ n) (h : ¬ n ≤ runP s t i j) : ((piecesT s t n).filter fun p => decide (hasP p i j n)).length = 0 := by
  rw [List.length_eq_zero_iff, List.filter_eq_nil_iff]
  intro y hy hP
  rw [decide_eq_true_iff] at hP
  obtain ⟨A, B, hs, rfl⟩ := (pieces_mem hn).1 hy
  exact h ((has_iff hn hs.1 hs.2.1).1 hP).2.2
/-- The more bytes are asked for, the fewer pieces there are. -/
theorem pieces_more {s t : ByteArray} {n : Nat} (hn : 1 ≤ n) : piecesT s t ((n + 1 : Nat) : Int) = (piecesT s t n).filter fun p => decide ((n : Int) < p.2.2) := by
  refine pairwise_unique enLt_irrefl (fun _ _ => enLt_asymm) (pieces_up s t _) ((pieces_up s t n).filter _) fun x => ?_
  rw [pieces_mem (by omega), List.mem_filter, pieces_mem hn, decide_eq_true_iff]
  constructor
  · rintro ⟨i, j, ⟨h1, h2, h3⟩, rfl⟩
    exact ⟨⟨i, j, ⟨h1, h2, by omega⟩, rfl⟩, by simp only [pieceN]; omega⟩
  · rintro ⟨⟨i, j, ⟨h1, h2, h3⟩, rfl⟩, h4⟩
    simp only [pieceN] at h4
    exact ⟨i, j, ⟨h1, h2, by omega⟩, rfl⟩

/-- The longest one of pieces, the first one of several. -/
def longL : En → List En → En
  | best, [] => best
  | best, p :: l => longL (if best.2.2 < p.2.2 then p else best) l
theorem longL_snoc (best : En) (l : List En) (p : En) : longL best (l ++ [p]) = if (longL best l).2.2 < p.2.2 then p else longL best l := by
  induction l generalizing best with
  | nil => rfl
  | cons x l ih => exact ih _
theorem longL_ge (best : En) (l : List En) : best.2.2 ≤ (longL best l).2.2 ∧ ∀ p ∈ l, p.2.2 ≤ (longL best l).2.2 := by
  induction l generalizing best with
  | nil => exact ⟨Int.le_refl _, by simp⟩
  | cons x l ih =>
    obtain ⟨h1, h2⟩ := ih (if best.2.2 < x.2.2 then x else best)
    have h3 : best.2.2 ≤ (if best.2.2 < x.2.2 then x else best).2.2 ∧ x.2.2 ≤ (if best.2.2 < x.2.2 then x else best).2.2 := by
      split <;> omega
    refine ⟨Int.le_trans h3.1 h1, fun p hp => ?_⟩
    rcases List.mem_cons.1 hp with rfl | hp
    · exact Int.le_trans h3.2 h1
    · exact h2 p hp
theorem longL_in (best : En) (l : List En) : longL best l = best ∨ longL best l ∈ l := by
  induction l generalizing best with
  | nil => exact .inl rfl
  | cons x l ih =>
    rcases ih (if best.2.2 < x.2.2 then x else best) with h | h
    · rw [longL, h]
      split
      · exact .inr (by simp)
      · exact .inl rfl
    · exact .inr (by rw [longL]; exact List.mem_cons_of_mem _ h)
def longT (s t : ByteArray) : En := longL (0, 0, 0) (piecesT s t 1)
theorem longT_ways (s t : ByteArray) : longT s t = (0, 0, 0) ∨ ∃ i j, startP s t 1 i j ∧ longT s t = pieceN s t i j := by
  rcases longL_in (0, 0, 0) (piecesT s t 1) with h | h
  · exact .inl h
  · obtain ⟨i, j, h1, h2⟩ := (pieces_mem (n := 1) (Nat.le_refl _)).1 h
    exact .inr ⟨i, j, h1, h2⟩
/-- No bytes that both have are more. -/
theorem longT_most (s t : ByteArray) (i j : Nat) : ((runP s t i j : Nat) : Int) ≤ (longT s t).2.2 := by
  by_cases h : sm s t i j
  · have hb := runP_back s t i j
    have hst : startP s t 1 (i - backP s t i j) (j - backP s t i j) := by
      refine ⟨?_, backP_first s t i j, by rw [hb]; have := runP_pos h; omega⟩
      by_cases hb2 : backP s t i j = 0
      · rw [hb2]; exact h
      · exact backP_same s t i j 0 (by omega)
    have h1 := (longL_ge (0, 0, 0) (piecesT s t 1)).2 _ ((pieces_mem (n := 1) (Nat.le_refl _)).2 ⟨_, _, hst, rfl⟩)
    simp only [pieceN, hb] at h1
    show _ ≤ (longL (0, 0, 0) (piecesT s t 1)).2.2
    omega
  · rw [runP_zero h]
    exact (longL_ge (0, 0, 0) (piecesT s t 1)).1
theorem longT_turn (s t : ByteArray) : (longT t s).2.2 = (longT s t).2.2 := by
  have key : ∀ s t : ByteArray, (longT t s).2.2 ≤ (longT s t).2.2 := by
    intro s t
    rcases longT_ways t s with h | ⟨i, j, h1, h2⟩
    · rw [h]; exact (longL_ge (0, 0, 0) (piecesT s t 1)).1
    · rw [h2]
      show ((runP t s i j : Nat) : Int) ≤ _
      rw [runP_turn]
      exact longT_most s t j i
  exact Int.le_antisymm (key s t) (key t s)
theorem longT_nonneg (s t : ByteArray) : 0 ≤ (longT s t).2.2 := (longL_ge (0, 0, 0) (piecesT s t 1)).1
theorem longT_none (s t : ByteArray) : piecesT s t ((longT s t).2.2 + 1) = [] := by
  obtain ⟨m, hm⟩ : ∃ m : Nat, (longT s t).2.2 = m := ⟨(longT s t).2.2.toNat, by have := longT_nonneg s t; omega⟩
  rw [hm, show ((m : Int) + 1) = ((m + 1 : Nat) : Int) by omega, List.eq_nil_iff_forall_not_mem]
  intro x hx
  obtain ⟨i, j, h1, rfl⟩ := (pieces_mem (by omega)).1 hx
  have h2 := longT_most s t i j
  have h3 := h1.2.2
  omega
theorem longT_ok (s t : ByteArray) : (longT s t).2.2 = 0 ∨ okP s t (longT s t) := by
  rcases longT_ways s t with h | ⟨i, j, ⟨h0, h1, h2⟩, h3⟩
  · left; rw [h]
  · right
    rw [h3]
    have h4 := runP_room s t i j (Nat.le_of_lt h0.1) (Nat.le_of_lt h0.2.1)
    simp only [okP, pieceN, Int.toNat_natCast]
    omega
theorem longT_self (s : ByteArray) : (longT s s).2.2 = s.size := by
  have h1 := longT_most s s 0 0
  rw [runP_self] at h1
  rcases longT_ways s s with h | ⟨i, j, ⟨h0, _, _⟩, h3⟩
  · rw [h] at h1 ⊢
    simp only at h1 ⊢
    omega
  · rw [h3] at h1 ⊢
    have h4 := runP_room s s i j (Nat.le_of_lt h0.1) (Nat.le_of_lt h0.2.1)
    simp only [pieceN] at h1 ⊢
    omega

/-- Pieces the other way round. -/
def turnE (p : En) : En := (p.2.1, p.1, p.2.2)
def turnL (l : List En) : List En := rowE (l.map turnE)
theorem turnL_next (l : List En) (k : Nat) (hk : k < l.length) : turnL (l.take (k + 1)) = putE (turnE l[k]) (turnL (l.take k)) := by
  rw [turnL, turnL, putE_snoc, List.take_succ_eq_append_getElem hk, List.map_append]
  rfl
theorem turnL_len (l : List En) : (turnL l).length ≤ l.length := by
  have := rowE_len (l.map turnE)
  rwa [List.length_map] at this
/-- The pieces of two texts are those of the texts the other way round, turned. -/
theorem turnL_pieces (s t : ByteArray) (n : Int) : turnL (piecesT s t n) = piecesT t s n := by
  refine rowE_of ⟨pieces_up t s n, fun x => ?_⟩
  by_cases hn : n < 1
  · rw [piecesT_bad hn, piecesT_bad hn]; simp
  · obtain ⟨m, rfl⟩ : ∃ m : Nat, n = m := ⟨n.toNat, by omega⟩
    rw [pieces_mem (by omega), List.mem_map]
    constructor
    · rintro ⟨i, j, ⟨h1, h2, h3⟩, rfl⟩
      refine ⟨pieceN s t j i, (pieces_mem (by omega)).2 ⟨j, i, ⟨sm_turn.1 h1, by rw [backP_turn]; exact h2, by rw [runP_turn]; exact h3⟩, rfl⟩, ?_⟩
      simp only [turnE, pieceN, runP_turn s t j i]
    · rintro ⟨y, hy, rfl⟩
      obtain ⟨i, j, ⟨h1, h2, h3⟩, rfl⟩ := (pieces_mem (by omega)).1 hy
      refine ⟨j, i, ⟨sm_turn.1 h1, by rw [backP_turn]; exact h2, by rw [runP_turn]; exact h3⟩, ?_⟩
      simp only [turnE, pieceN, runP_turn s t i j]

end Go.Proofs.Ytehppjilnacjlaa
