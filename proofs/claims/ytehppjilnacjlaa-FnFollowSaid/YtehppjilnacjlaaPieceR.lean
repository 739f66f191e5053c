/-
  Help for the contracts of the program's pieces: parts of texts, where pieces begin, room of rows. No conditions.
-/
import Derived.Test.YtehppjilnacjlaaPieceM
namespace Go.Proofs.Ytehppjilnacjlaa
open Go.RowKit

theorem alloc_size7 (w : World) (o : Obj) : (w.alloc o).heap.size = w.heap.size + 1 := by simp
theorem pieces_room {s t : ByteArray} (N i j : Nat) (hs : s.size ≤ 1048576) (ht : t.size ≤ 1048576) (hi : i < s.size) (hj : j ≤ t.size) : (piecesN s t N i ++ rowP s t N i j).length ≤ 1099511627776 := by
  have h1 := piecesN_len s t N i
  have h2 := rowP_len s t N i j
  have h3 : i * t.size ≤ 1048575 * 1048576 := Nat.mul_le_mul (by omega) ht
  rw [List.length_append]
  omega
theorem piecesT_room {s t : ByteArray} (n : Int) (hs : s.size ≤ 1048576) (ht : t.size ≤ 1048576) : (piecesT s t n).length ≤ 1099511627776 := by
  unfold piecesT
  split
  · exact Nat.zero_le _
  · have h1 := piecesN_len s t n.toNat s.size
    have h3 : s.size * t.size ≤ 1048576 * 1048576 := Nat.mul_le_mul hs ht
    omega
theorem ents_len7 {w : World} {B : Nat} {e : TypeId} {a : Option Addr} {n c : Nat} {l : List En} (h : w.ownsRow B e 3 (.slice a n c) n (entsC l)) : n = l.length := by
  have := h.1
  rw [entsC_len] at this; omega
/-- What grows around two places, and whether a piece begins there. -/
theorem grow_ways (s t : ByteArray) (N i j : Nat) : (growT s t i j = ((0, 0, 0), false) ∧ ¬ startP s t N i j) ∨
    (∃ r : Nat, growT s t i j = (((i : Int), (j : Int), (r : Int)), true) ∧ startP s t N i j ∧ N ≤ r ∧ pieceN s t i j = ((i : Int), (j : Int), (r : Int))) ∨
    (∃ r : Nat, growT s t i j = (((i : Int), (j : Int), (r : Int)), true) ∧ ¬ startP s t N i j ∧ r < N) ∨
    (∃ (x y : Nat) (z : Nat), growT s t i j = (((x : Int), (y : Int), (z : Int)), true) ∧ ¬ startP s t N i j ∧ x < i) := by
  by_cases hsm : sm s t i j
  · right
    have hg := growT_yes hsm
    have hle := backP_le s t i j
    by_cases hb : backP s t i j = 0
    · have hg2 : growN s t i j = ((i : Int), (j : Int), ((runP s t i j : Nat) : Int)) := by rw [growN, hb]; rfl
      rw [hg2] at hg
      by_cases hN : N ≤ runP s t i j
      · exact .inl ⟨runP s t i j, hg, ⟨hsm, hb, hN⟩, hN, rfl⟩
      · exact .inr (.inl ⟨runP s t i j, hg, fun h => hN h.2.2, by omega⟩)
    · exact .inr (.inr ⟨_, _, _, hg, fun h => hb h.2.1, by omega⟩)
  · left
    exact ⟨growT_no (fun h => hsm (by have := h.2.2; rwa [Int.toNat_natCast, Int.toNat_natCast] at this)), fun h => hsm h.1⟩

/-- Parts of texts: from a place on, and up to one. -/
theorem bt_from {s : ByteArray} {i p : Nat} (h : i + p < s.size) : bt (s.extract i s.size) p = bt s (i + p) := by
  have h1 : p < (s.extract i s.size).size := by rw [ByteArray.size_extract]; omega
  rw [bt_at h1, bt_at h, ByteArray.getElem_extract]
theorem sm_from {s t : ByteArray} {i j p q : Nat} : sm (s.extract i s.size) (t.extract j t.size) p q ↔ sm s t (i + p) (j + q) := by
  have h1 : (s.extract i s.size).size = s.size - i := by rw [ByteArray.size_extract, Nat.min_self]
  have h2 : (t.extract j t.size).size = t.size - j := by rw [ByteArray.size_extract, Nat.min_self]
  constructor
  · rintro ⟨a, b, c⟩
    rw [bt_from (by omega), bt_from (by omega)] at c
    exact ⟨by omega, by omega, c⟩
  · rintro ⟨a, b, c⟩
    exact ⟨by omega, by omega, by rw [bt_from a, bt_from b]; exact c⟩
theorem runP_from (s t : ByteArray) (i j : Nat) : runP (s.extract i s.size) (t.extract j t.size) 0 0 = runP s t i j :=
  runP_is (fun k hk => by rw [sm_from, Nat.zero_add]; exact runP_same s t i j k hk) (fun h => by rw [sm_from, Nat.zero_add] at h; exact runP_stop s t i j h)
theorem sm_upto {s t : ByteArray} {i j p q : Nat} (hi : i ≤ s.size) (hj : j ≤ t.size) (hp : p < i) (hq : q < j) : sm (s.extract 0 i) (t.extract 0 j) p q ↔ sm s t p q := by
  have h1 : (s.extract 0 i).size = i := by rw [ByteArray.size_extract]; omega
  have h2 : (t.extract 0 j).size = j := by rw [ByteArray.size_extract]; omega
  have e1 : bt (s.extract 0 i) p = bt s p := by
    rw [bt_at (by omega), bt_at (by omega), ByteArray.getElem_extract]; simp only [Nat.zero_add]
  have e2 : bt (t.extract 0 j) q = bt t q := by
    rw [bt_at (by omega), bt_at (by omega), ByteArray.getElem_extract]; simp only [Nat.zero_add]
  unfold sm
  rw [e1, e2]
  omega
theorem backP_upto {s t : ByteArray} {i j : Nat} (hi : i ≤ s.size) (hj : j ≤ t.size) : ∀ p q, p ≤ i → q ≤ j → backP (s.extract 0 i) (t.extract 0 j) p q = backP s t p q := by
  intro p
  induction p with
  | zero => intro q _ _; rw [backP_left, backP_left]
  | succ p ih =>
    intro q hp hq
    cases q with
    | zero => rw [backP_right, backP_right]
    | succ q =>
      have h := sm_upto (s := s) (t := t) hi hj (p := p) (q := q) (by omega) (by omega)
      by_cases h2 : sm s t p q
      · rw [backP_yes h2, backP_yes (h.2 h2), ih q (by omega) (by omega)]
      · rw [backP_no h2, backP_no (fun e => h2 (h.1 e))]

/-- What begins at two places. -/
def fromP (s t : ByteArray) (i j : Nat) : En := if 0 < i ∧ 0 < j ∧ sm s t (i - 1) (j - 1) then (0, 0, 0) else pieceN s t i j
theorem fromP_in {s t : ByteArray} {i j : Nat} (h : 0 < i ∧ 0 < j ∧ sm s t (i - 1) (j - 1)) : fromP s t i j = (0, 0, 0) := by rw [fromP, if_pos h]
theorem fromP_out {s t : ByteArray} {i j : Nat} (h : ¬ (0 < i ∧ 0 < j ∧ sm s t (i - 1) (j - 1))) : fromP s t i j = pieceN s t i j := by rw [fromP, if_neg h]
theorem back_pos {s t : ByteArray} {i j : Nat} : (0 < i ∧ 0 < j ∧ sm s t (i - 1) (j - 1)) ↔ 0 < backP s t i j := by
  constructor
  · rintro ⟨h1, h2, h3⟩
    rw [backP_step h1 h2 h3]; omega
  · intro h
    rcases Decidable.em (0 < i ∧ 0 < j ∧ sm s t (i - 1) (j - 1)) with h1 | h1
    · exact h1
    · rw [backP_stop h1] at h; omega
theorem from_ways (s t : ByteArray) (N i j : Nat) (hN : 1 ≤ N) : (fromP s t i j = (0, 0, 0) ∧ ¬ startP s t N i j) ∨
    (∃ r : Nat, fromP s t i j = ((i : Int), (j : Int), (r : Int)) ∧ startP s t N i j ∧ N ≤ r ∧ pieceN s t i j = ((i : Int), (j : Int), (r : Int))) ∨
    (∃ r : Nat, fromP s t i j = ((i : Int), (j : Int), (r : Int)) ∧ ¬ startP s t N i j ∧ r < N) := by
  by_cases h : 0 < i ∧ 0 < j ∧ sm s t (i - 1) (j - 1)
  · exact .inl ⟨fromP_in h, fun h2 => by have := back_pos.1 h; have := h2.2.1; omega⟩
  · right
    have h0 : backP s t i j = 0 := backP_stop h
    have e := fromP_out h
    by_cases hr : N ≤ runP s t i j
    · exact .inl ⟨runP s t i j, e, ⟨runP_same s t i j 0 (by omega), h0, hr⟩, hr, rfl⟩
    · exact .inr ⟨runP s t i j, e, fun h2 => hr h2.2.2, by omega⟩
/-- Where no more n bytes are left nothing begins. -/
theorem rowP_rest {s t : ByteArray} {n i m : Nat} (hm : m ≤ t.size) (h : t.size < m + n) : rowP s t n i t.size = rowP s t n i m := by
  have key : ∀ d, m + d ≤ t.size → rowP s t n i (m + d) = rowP s t n i m := by
    intro d
    induction d with
    | zero => intro _; rfl
    | succ d ih =>
      intro hd
      rw [← Nat.add_assoc, rowP_no, ih (by omega)]
      rintro ⟨h1, _, h3⟩
      have := (runP_room s t i (m + d) (Nat.le_of_lt h1.1) (Nat.le_of_lt h1.2.1)).2
      omega
  have := key (t.size - m) (by omega)
  rwa [show m + (t.size - m) = t.size by omega] at this
theorem rowP_none {s t : ByteArray} {n i : Nat} (h : s.size < i + n) (m : Nat) : rowP s t n i m = [] := by
  induction m with
  | zero => rfl
  | succ m ih =>
    rw [rowP_no, ih]
    rintro ⟨h1, _, h3⟩
    have := (runP_room s t i m (Nat.le_of_lt h1.1) (Nat.le_of_lt h1.2.1)).1
    omega
theorem piecesN_rest {s t : ByteArray} {n k : Nat} (hk : k ≤ s.size) (h : s.size < k + n) : piecesN s t n s.size = piecesN s t n k := by
  have key : ∀ d, k + d ≤ s.size → piecesN s t n (k + d) = piecesN s t n k := by
    intro d
    induction d with
    | zero => intro _; rfl
    | succ d ih =>
      intro hd
      rw [← Nat.add_assoc, piecesN_next, rowP_none (by omega), List.append_nil, ih (by omega)]
  have := key (s.size - k) (by omega)
  rwa [show k + (s.size - k) = s.size by omega] at this
end Go.Proofs.Ytehppjilnacjlaa
