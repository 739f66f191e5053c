/-
  Plain mathematics of what marks find: pieces around twins of marks, twins that are false, the shelf of all texts, what is found by it. No conditions.
-/
import Derived.Test.YtclblnkeakkdeaaMg2
import Derived.Test.YtclblnkeakkdeaaMg4
namespace Go.Proofs.Ytclblnkeakkdeaa

/-- The marks of a text. -/
def mkL (s : ByteArray) (k w : Int) : List (Int × Int) := marksL s.data.toList k w
theorem marksL_few {s : List UInt8} {k w : Int} (h : k < 1 ∨ w < 1) : marksL s k w = [] := by
  rw [marksL, marksAt]
  rcases h with h | h
  · rw [printsL, if_pos (.inl h)]
    by_cases hw : w < 1
    · rw [chosenN_few (.inl hw)]; rfl
    · rw [chosenN_few (.inr (by simp; omega))]; rfl
  · rw [chosenN_few (.inl h)]; rfl
theorem mkL_few {s : ByteArray} {k w : Int} (h : k < 1 ∨ w < 1) : mkL s k w = [] := marksL_few h
theorem mkL_ok {s : ByteArray} {k w : Int} {m : Int × Int} (h : m ∈ mkL s k w) : 1 ≤ k ∧ 1 ≤ w := by
  refine ⟨?_, ?_⟩
  · rcases Int.lt_or_le k 1 with hk | hk
    · rw [mkL_few (.inl hk)] at h; cases h
    · exact hk
  · rcases Int.lt_or_le w 1 with hk | hk
    · rw [mkL_few (.inr hk)] at h; cases h
    · exact hk
/-- A mark has the fingerprint of the k bytes at its place. -/
theorem mkL_in {s : ByteArray} {k w : Int} {m : Int × Int} (h : m ∈ mkL s k w) : ∃ i K : Nat, k = K ∧ 1 ≤ K ∧ m = (((prN (pieceL s.data.toList K i) : Nat) : Int), (i : Int)) ∧ i + K ≤ s.size ∧ i ∈ marksAt s.data.toList k w := by
  have hk := (mkL_ok h).1
  obtain ⟨K, rfl⟩ : ∃ K : Nat, k = K := ⟨k.toNat, by omega⟩
  obtain ⟨i, hi, rfl⟩ := List.mem_map.1 h
  have h1 := marksAt_lt _ K w (by omega) i hi
  exact ⟨i, K, rfl, by omega, by rw [printsN_get _ _ _ (by omega) h1], h1, hi⟩
theorem mkL_print {s : ByteArray} {k w : Int} {m : Int × Int} (h : m ∈ mkL s k w) : 0 ≤ m.1 ∧ m.1 < 1000003 ∧ 0 ≤ m.2 := by
  obtain ⟨i, K, _, _, rfl, _, _⟩ := mkL_in h
  have := prN_lt (pieceL s.data.toList K i)
  refine ⟨by simp only; omega, by simp only; omega, by simp only; omega⟩
theorem twinM_mem {A B : List (Int × Int)} {z : Int × Int} : z ∈ twinsL A B ↔ ∃ x ∈ A, ∃ y ∈ B, x.1 = y.1 ∧ z = (x.2, y.2) := by
  rw [twinsL, List.mem_flatMap]
  constructor
  · rintro ⟨x, hx, h⟩
    rw [rowT, List.mem_map] at h
    obtain ⟨y, hy, rfl⟩ := h
    rw [List.mem_filter] at hy
    exact ⟨x, hx, y, hy.1, by simpa using hy.2, rfl⟩
  · rintro ⟨x, hx, y, hy, he, rfl⟩
    exact ⟨x, hx, List.mem_map.2 ⟨y, List.mem_filter.2 ⟨hy, by simpa using he⟩, rfl⟩⟩

/-- The piece around two places, if k bytes are the same there, and it has n bytes or more. -/
def aroundP (s t : ByteArray) (k n : Int) (i j : Nat) : Option En := if k.toNat ≤ runP s t i j ∧ n ≤ (growN s t i j).2.2 then some (growN s t i j) else none
theorem aroundP_some {s t : ByteArray} {k n : Int} {i j : Nat} {p : En} : aroundP s t k n i j = some p ↔ k.toNat ≤ runP s t i j ∧ n ≤ p.2.2 ∧ p = growN s t i j := by
  unfold aroundP
  split
  · rename_i h
    constructor
    · intro e
      injection e with e
      subst e
      exact ⟨h.1, h.2, rfl⟩
    · rintro ⟨_, _, rfl⟩
      rfl
  · rename_i h
    constructor
    · intro e; cases e
    · rintro ⟨h1, h2, rfl⟩
      exact absurd ⟨h1, h2⟩ h
/-- What grows where bytes are the same is a piece that can not be made longer. -/
theorem around_piece {s t : ByteArray} {k : Int} {n i j : Nat} {p : En} (hk : 1 ≤ k) (hn : 1 ≤ n) (h : aroundP s t k n i j = some p) : p ∈ piecesT s t n := by
  obtain ⟨h1, h2, rfl⟩ := aroundP_some.1 h
  have hsm : sm s t i j := runP_same s t i j 0 (by omega)
  have hrb := runP_back s t i j
  refine (pieces_mem hn).2 ⟨i - backP s t i j, j - backP s t i j, ⟨?_, backP_first s t i j, ?_⟩, rfl⟩
  · by_cases hb : backP s t i j = 0
    · rw [hb]; exact hsm
    · exact backP_same s t i j 0 (by omega)
  · simp only [growN] at h2; omega
/-- A piece grows around each of its places at which k of its bytes are left. -/
theorem piece_around {s t : ByteArray} {K N A B d : Nat} (hs : startP s t N A B) (hk : 1 ≤ K) (hd : d + K ≤ runP s t A B) : aroundP s t (K : Int) (N : Int) (A + d) (B + d) = some (pieceN s t A B) := by
  have h1 := runP_on (s := s) (t := t) (i := A) (j := B) d (fun q hq => runP_same s t A B q (by omega))
  have h2 := backP_on (s := s) (t := t) (i := A) (j := B) d (fun q hq => runP_same s t A B q (by omega))
  rw [hs.2.1, Nat.zero_add] at h2
  have e : growN s t (A + d) (B + d) = pieceN s t A B := by
    rw [growN, h2, Nat.add_sub_cancel, Nat.add_sub_cancel]; rfl
  rw [aroundP_some]
  refine ⟨by omega, ?_, e.symm⟩
  have := hs.2.2
  simp only [pieceN]
  omega

/-- FoundBy. -/
def foundTo (s t : ByteArray) (k n : Int) (T : List (Int × Int)) : List En := T.filterMap fun x => aroundP s t k n x.1.toNat x.2.toNat
def foundL (s t : ByteArray) (k w n : Int) : List En := if n < 1 then [] else rowE (foundTo s t k n (twinsL (mkL s k w) (mkL t k w)))
theorem foundTo_yes {s t : ByteArray} {k n : Int} {T : List (Int × Int)} {q : Nat} {p : En} (hq : q < T.length) (h : aroundP s t k n T[q].1.toNat T[q].2.toNat = some p) : foundTo s t k n (T.take (q + 1)) = foundTo s t k n (T.take q) ++ [p] := by
  rw [foundTo, List.take_succ_eq_append_getElem hq, List.filterMap_append, List.filterMap_cons, h]; rfl
theorem foundTo_no {s t : ByteArray} {k n : Int} {T : List (Int × Int)} {q : Nat} (hq : q < T.length) (h : aroundP s t k n T[q].1.toNat T[q].2.toNat = none) : foundTo s t k n (T.take (q + 1)) = foundTo s t k n (T.take q) := by
  rw [foundTo, List.take_succ_eq_append_getElem hq, List.filterMap_append, List.filterMap_cons, h]; simp [foundTo]
theorem foundTo_len (s t : ByteArray) (k n : Int) (T : List (Int × Int)) : (foundTo s t k n T).length ≤ T.length := List.length_filterMap_le _ _
theorem foundL_none {s t : ByteArray} {k w n : Int} (h : k < 1 ∨ w < 1 ∨ n < 1) : foundL s t k w n = [] := by
  unfold foundL
  split
  · rfl
  · rw [mkL_few (show k < 1 ∨ w < 1 by omega)]; rfl
/-- Where a twin stands. -/
theorem twin_in {s t : ByteArray} {k w : Int} {x : Int × Int} (h : x ∈ twinsL (mkL s k w) (mkL t k w)) : ∃ i j K : Nat, k = K ∧ 1 ≤ K ∧ x = ((i : Int), (j : Int)) ∧ i + K ≤ s.size ∧ j + K ≤ t.size ∧ prN (pieceL s.data.toList K i) = prN (pieceL t.data.toList K j) := by
  obtain ⟨a, ha, b, hb, he, rfl⟩ := twinM_mem.1 h
  obtain ⟨i, K, hK, hk1, rfl, hi, _⟩ := mkL_in ha
  obtain ⟨j, K2, hK2, _, rfl, hj, _⟩ := mkL_in hb
  obtain rfl : K = K2 := by omega
  simp only at he
  exact ⟨i, j, K, hK, hk1, rfl, hi, hj, by omega⟩
/-- All that is found are pieces that can not be made longer. -/
theorem foundL_piece {s t : ByteArray} {k w n : Int} {p : En} (h : p ∈ foundL s t k w n) : p ∈ piecesT s t n := by
  unfold foundL at h
  split at h
  · cases h
  · rename_i hn
    obtain ⟨N, rfl⟩ : ∃ N : Nat, n = N := ⟨n.toNat, by omega⟩
    rw [rowE_mem, foundTo, List.mem_filterMap] at h
    obtain ⟨x, hx, h⟩ := h
    obtain ⟨i, j, K, rfl, hk1, rfl, _, _, _⟩ := twin_in hx
    exact around_piece (by omega) (by omega) h
theorem extract_list7 (s : ByteArray) (i n : Nat) : (s.extract i (i + n)).data.toList = pieceL s.data.toList n i := by
  simp [ByteArray.extract, ByteArray.copySlice, pieceL]
  try rw [List.take_drop]
theorem foundL_all {s t : ByteArray} {K W N : Nat} (hk : 1 ≤ K) (hw : 1 ≤ W) (hn : K + W - 1 ≤ N) : foundL s t K W N = piecesT s t N := by
  have hN : 1 ≤ N := by omega
  unfold foundL
  rw [if_neg (by omega)]
  refine rowE_of ⟨pieces_up s t N, fun p => ?_⟩
  constructor
  · intro h
    obtain ⟨A, B, hst, rfl⟩ := (pieces_mem hN).1 h
    have hrm := runP_room s t A B (Nat.le_of_lt hst.1.1) (Nat.le_of_lt hst.1.2.1)
    have hr := hst.2.2
    have he : pieceL s.data.toList (K + W - 1) A = pieceL t.data.toList (K + W - 1) B := by
      rw [← extract_list7, ← extract_list7, (extract_same (by omega) (by omega)).2 (show K + W - 1 ≤ runP s t A B by omega)]
    obtain ⟨d, hd, h1, h2, h3⟩ := marksAt_shared s.data.toList t.data.toList K W A B (by omega) (by omega) (show A + (K + W - 1) ≤ s.size by omega) (show B + (K + W - 1) ≤ t.size by omega) he
    rw [foundTo, List.mem_filterMap]
    refine ⟨(((A + d : Nat) : Int), ((B + d : Nat) : Int)), twinM_mem.2 ⟨_, List.mem_map.2 ⟨A + d, h1, rfl⟩, _, List.mem_map.2 ⟨B + d, h2, rfl⟩, ?_, rfl⟩, ?_⟩
    · have la := marksAt_lt s.data.toList K W (by omega) _ h1
      have lb := marksAt_lt t.data.toList K W (by omega) _ h2
      simp only
      rw [printsN_get _ _ _ (by omega) la, printsN_get _ _ _ (by omega) lb, h3]
    · simp only [Int.toNat_natCast]
      exact piece_around hst hk (by omega)
  · intro h
    refine foundL_piece (w := (W : Int)) (k := (K : Int)) ?_
    rw [foundL, if_neg (by omega), rowE_mem]
    exact h
theorem foundL_up (s t : ByteArray) (k w n : Int) : (foundL s t k w n).Pairwise enLt := by
  unfold foundL
  split
  · exact .nil
  · exact (rowE_is _).up
theorem foundL_mem {s t : ByteArray} {k w : Int} {N : Nat} (hN : 1 ≤ N) {p : En} : p ∈ foundL s t k w N ↔ ∃ a ∈ mkL s k w, ∃ b ∈ mkL t k w, a.1 = b.1 ∧ aroundP s t k N a.2.toNat b.2.toNat = some p := by
  rw [foundL, if_neg (by omega), rowE_mem, foundTo, List.mem_filterMap]
  constructor
  · rintro ⟨x, hx, h⟩
    obtain ⟨a, ha, b, hb, he, rfl⟩ := twinM_mem.1 hx
    exact ⟨a, ha, b, hb, he, h⟩
  · rintro ⟨a, ha, b, hb, he, h⟩
    exact ⟨(a.2, b.2), twinM_mem.2 ⟨a, ha, b, hb, he, rfl⟩, h⟩

/-- FalseTwins. -/
def liesP (s t : ByteArray) (k : Int) (x : Int × Int) : Bool := decide (¬ k.toNat ≤ runP s t x.1.toNat x.2.toNat)
def falseTo (s t : ByteArray) (k : Int) (T : List (Int × Int)) : Nat := (T.filter (liesP s t k)).length
def falseN (s t : ByteArray) (k w : Int) : Nat := falseTo s t k (twinsL (mkL s k w) (mkL t k w))
theorem falseTo_yes {s t : ByteArray} {k : Int} {T : List (Int × Int)} {q : Nat} (hq : q < T.length) (h : ¬ k.toNat ≤ runP s t T[q].1.toNat T[q].2.toNat) : falseTo s t k (T.take (q + 1)) = falseTo s t k (T.take q) + 1 := by
  rw [falseTo, List.take_succ_eq_append_getElem hq, List.filter_append, List.length_append, List.filter_cons_of_pos (by simpa [liesP] using h)]; rfl
theorem falseTo_no {s t : ByteArray} {k : Int} {T : List (Int × Int)} {q : Nat} (hq : q < T.length) (h : k.toNat ≤ runP s t T[q].1.toNat T[q].2.toNat) : falseTo s t k (T.take (q + 1)) = falseTo s t k (T.take q) := by
  rw [falseTo, List.take_succ_eq_append_getElem hq, List.filter_append, List.length_append, List.filter_cons_of_neg (by simpa [liesP] using h)]; rfl
theorem falseTo_le (s t : ByteArray) (k : Int) (T : List (Int × Int)) (q : Nat) : falseTo s t k (T.take q) ≤ q := by
  have h1 := List.length_filter_le (liesP s t k) (T.take q)
  rw [List.length_take] at h1
  unfold falseTo
  omega
theorem filt_turn (P Q : Int × Int → Bool) (hPQ : ∀ x y, P (x, y) = Q (y, x)) (A B : List (Int × Int)) : ((twinsL A B).filter P).length = ((twinsL B A).filter Q).length := by
  have hnil : ∀ B : List (Int × Int), twinsL B [] = [] := by
    intro B
    induction B with
    | nil => rfl
    | cons b B ih => rw [twinsL, List.flatMap_cons]; rw [twinsL] at ih; rw [ih]; rfl
  have hone : ∀ (a : Int × Int) (A B : List (Int × Int)), ((twinsL B (a :: A)).filter Q).length = ((rowT a B).filter P).length + ((twinsL B A).filter Q).length := by
    intro a A B
    induction B with
    | nil => rfl
    | cons b B ih =>
      have e1 : twinsL (b :: B) (a :: A) = rowT b (a :: A) ++ twinsL B (a :: A) := by rw [twinsL, List.flatMap_cons]; rfl
      have e2 : twinsL (b :: B) A = rowT b A ++ twinsL B A := by rw [twinsL, List.flatMap_cons]; rfl
      rw [e1, e2, List.filter_append, List.filter_append, List.length_append, List.length_append, ih]
      by_cases hab : a.1 = b.1
      · have e3 : rowT b (a :: A) = (b.2, a.2) :: rowT b A := by rw [rowT, List.filter_cons_of_pos (by simp [hab])]; rfl
        have e4 : rowT a (b :: B) = (a.2, b.2) :: rowT a B := by rw [rowT, List.filter_cons_of_pos (by simp [hab])]; rfl
        rw [e3, e4]
        by_cases hq : Q (b.2, a.2) = true
        · rw [List.filter_cons_of_pos hq, List.filter_cons_of_pos (by rw [hPQ]; exact hq), List.length_cons, List.length_cons]
          omega
        · rw [List.filter_cons_of_neg hq, List.filter_cons_of_neg (by rw [hPQ]; exact hq)]
          omega
      · have e3 : rowT b (a :: A) = rowT b A := by rw [rowT, List.filter_cons_of_neg (by simpa using fun e => hab e.symm)]; rfl
        have e4 : rowT a (b :: B) = rowT a B := by rw [rowT, List.filter_cons_of_neg (by simpa using hab)]; rfl
        rw [e3, e4]
        omega
  induction A with
  | nil => rw [hnil]; rfl
  | cons a A ih =>
    have e1 : twinsL (a :: A) B = rowT a B ++ twinsL A B := by rw [twinsL, List.flatMap_cons]; rfl
    rw [e1, List.filter_append, List.length_append, ih, hone]
/-- Twins are false both ways round. -/
theorem falseN_turn (s t : ByteArray) (k w : Int) : falseN t s k w = falseN s t k w := by
  refine filt_turn _ _ (fun x y => ?_) _ _
  simp only [liesP, runP_turn t s]
/-- A false twin: fingerprints that meet, though the bytes differ. -/
theorem falseN_meet {s t : ByteArray} {k w : Int} (h : 0 < falseN s t k w) : ∃ i j K : Nat, k = K ∧ 1 ≤ K ∧ i + K ≤ s.size ∧ j + K ≤ t.size ∧ prN (pieceL s.data.toList K i) = prN (pieceL t.data.toList K j) ∧ ¬ s.extract i (i + K) = t.extract j (j + K) := by
  obtain ⟨x, hx⟩ := List.exists_mem_of_length_pos h
  rw [List.mem_filter] at hx
  obtain ⟨i, j, K, hK, hk1, rfl, hi, hj, he⟩ := twin_in hx.1
  refine ⟨i, j, K, hK, hk1, hi, hj, he, fun e => ?_⟩
  have h1 := (extract_same hi hj).1 e
  have h2 := hx.2
  simp only [liesP, hK, Int.toNat_natCast, decide_eq_true_eq] at h2
  exact h2 h1
theorem falseN_le (s t : ByteArray) (k w : Int) : falseN s t k w ≤ (twinsL (mkL s k w) (mkL t k w)).length := List.length_filter_le _ _

/-- ShelfOfAll: the entries of a text, and of the first m texts. -/
def docAt (D : List ByteArray) (i : Nat) : ByteArray := D.getD i ⟨#[]⟩
def entsOf (i : Nat) (M : List (Int × Int)) : List En := M.map fun m => (m.1, (i : Int), m.2)
def allTo (D : List ByteArray) (k w : Int) (m : Nat) : List En := (List.range m).flatMap fun i => entsOf i (mkL (docAt D i) k w)
def allN (D : List ByteArray) (k w : Int) (m : Nat) : List En := rowE (allTo D k w m)
theorem allN_zero (D : List ByteArray) (k w : Int) : allN D k w 0 = [] := rfl
theorem allTo_next (D : List ByteArray) (k w : Int) (m : Nat) : allTo D k w (m + 1) = allTo D k w m ++ entsOf m (mkL (docAt D m) k w) := by
  rw [allTo, List.range_succ, List.flatMap_append]; simp [allTo]
theorem allN_next (D : List ByteArray) (k w : Int) (m : Nat) : allN D k w (m + 1) = rowE (allN D k w m ++ rowE (entsOf m (mkL (docAt D m) k w))) := by
  rw [allN, allTo_next]
  refine rowE_same fun x => ?_
  rw [List.mem_append, List.mem_append, rowE_mem, allN, rowE_mem]
theorem entsOf_mem {i : Nat} {M : List (Int × Int)} {x : En} : x ∈ entsOf i M ↔ x.2.1 = i ∧ (x.1, x.2.2) ∈ M := by
  rw [entsOf, List.mem_map]
  constructor
  · rintro ⟨m, hm, rfl⟩
    exact ⟨rfl, hm⟩
  · rintro ⟨h1, h2⟩
    refine ⟨_, h2, ?_⟩
    obtain ⟨a, b, c⟩ := x
    simp only at h1
    rw [← h1]
theorem allN_mem {D : List ByteArray} {k w : Int} {m : Nat} {x : En} : x ∈ allN D k w m ↔ ∃ i, i < m ∧ x.2.1 = i ∧ (x.1, x.2.2) ∈ mkL (docAt D i) k w := by
  rw [allN, rowE_mem, allTo, List.mem_flatMap]
  constructor
  · rintro ⟨i, hi, h⟩
    obtain ⟨h1, h2⟩ := entsOf_mem.1 h
    exact ⟨i, List.mem_range.1 hi, h1, h2⟩
  · rintro ⟨i, hi, h1, h2⟩
    exact ⟨i, List.mem_range.2 hi, entsOf_mem.2 ⟨h1, h2⟩⟩
theorem entsOf_ok {i : Nat} {s : ByteArray} {k w : Int} {x : En} (h : x ∈ entsOf i (mkL s k w)) : enOk x := by
  obtain ⟨h1, h2⟩ := entsOf_mem.1 h
  have h3 := mkL_print h2
  unfold enOk
  simp only at h3
  omega
theorem allN_shelf (D : List ByteArray) (k w : Int) (m : Nat) : shOk (allN D k w m) := shOk_row fun x hx => by
  rw [allTo, List.mem_flatMap] at hx
  obtain ⟨i, _, h⟩ := hx
  exact entsOf_ok h
theorem ents_shelf (i : Nat) (s : ByteArray) (k w : Int) : shOk (rowE (entsOf i (mkL s k w))) := shOk_row fun _ hx => entsOf_ok hx
/-- Only the entries of one text: its shelf. -/
theorem allN_only (D : List ByteArray) (k w : Int) (m i : Nat) (hi : i < m) : (allN D k w m).filter (fun x => x.2.1 == (i : Int)) = rowE (entsOf i (mkL (docAt D i) k w)) := by
  refine (rowE_of ⟨(rowE_is _).up.filter _, fun x => ?_⟩).symm
  rw [List.mem_filter]
  constructor
  · rintro ⟨h1, h2⟩
    obtain ⟨q, _, h3, h4⟩ := allN_mem.1 h1
    have h5 : x.2.1 = (i : Int) := by simpa using h2
    obtain rfl : q = i := by omega
    exact entsOf_mem.2 ⟨h3, h4⟩
  · intro h
    obtain ⟨h1, h2⟩ := entsOf_mem.1 h
    exact ⟨allN_mem.2 ⟨i, hi, h1, h2⟩, by simpa using h1⟩
theorem rowE_nodup {l : List En} (h : l.Pairwise (· ≠ ·)) : (rowE l).length = l.length := by
  induction l with
  | nil => rfl
  | cons x l ih =>
    rw [List.pairwise_cons] at h
    rw [rowE, putE]
    split
    · rename_i he
      have h1 := (rowE_mem l x).1 (List.mem_of_getElem? he)
      exact absurd rfl (h.1 x h1)
    · have h1 := atE_le x (rowE l)
      have h2 := ih h.2
      rw [List.length_append, List.length_cons, List.length_cons, List.length_take, List.length_drop]
      omega
theorem mkL_nodup (s : ByteArray) (k w : Int) : (mkL s k w).Pairwise (fun p q => p.2 ≠ q.2) := by
  rw [mkL, marksL, List.pairwise_map]
  refine List.Pairwise.imp ?_ (chosenN_up _ w)
  intro a b hab e
  simp only at e
  omega
theorem allTo_nodup (D : List ByteArray) (k w : Int) (m : Nat) : (allTo D k w m).Pairwise (· ≠ ·) := by
  induction m with
  | zero => exact .nil
  | succ m ih =>
    rw [allTo_next, List.pairwise_append]
    refine ⟨ih, ?_, ?_⟩
    · rw [entsOf, List.pairwise_map]
      refine List.Pairwise.imp ?_ (mkL_nodup (docAt D m) k w)
      intro a b hab e
      simp only [Prod.mk.injEq] at e
      exact hab e.2.2
    · intro x hx y hy e
      subst e
      rw [allTo, List.mem_flatMap] at hx
      obtain ⟨i, hi, h⟩ := hx
      have h1 := (entsOf_mem.1 h).1
      have h2 := (entsOf_mem.1 hy).1
      have h3 := List.mem_range.1 hi
      omega
theorem allN_len (D : List ByteArray) (k w : Int) (m : Nat) : (allN D k w m).length = (allTo D k w m).length := rowE_nodup (allTo_nodup D k w m)
theorem allN_len_next (D : List ByteArray) (k w : Int) (m : Nat) : (allN D k w (m + 1)).length = (allN D k w m).length + (mkL (docAt D m) k w).length := by
  rw [allN_len, allN_len, allTo_next, List.length_append, entsOf, List.length_map]

/-- AskShelf: what one entry tells of one mark; the entries with a fingerprint. -/
def askE (D : List ByteArray) (s : ByteArray) (k n : Int) (m : Int × Int) (x : En) : Option Fd :=
  if x.2.1 < D.length ∧ x.2.2 + k ≤ (docAt D x.2.1.toNat).size then (aroundP (docAt D x.2.1.toNat) s k n x.2.2.toNat m.2.toNat).map fun p => (x.2.1, p) else none
def withP (L : List En) (p : Int) : List En := L.filter fun x => x.1 == p
def askM (L : List En) (D : List ByteArray) (s : ByteArray) (k n : Int) (m : Int × Int) : List Fd := (withP L m.1).filterMap (askE D s k n m)
def askTo (L : List En) (D : List ByteArray) (s : ByteArray) (k n : Int) (M : List (Int × Int)) : List Fd := M.flatMap (askM L D s k n)
def askR (L : List En) (D : List ByteArray) (s : ByteArray) (k w n : Int) : List Fd := rowF (askTo L D s k n (mkL s k w))
theorem askTo_next {L : List En} {D : List ByteArray} {s : ByteArray} {k n : Int} {M : List (Int × Int)} {q : Nat} (hq : q < M.length) : askTo L D s k n (M.take (q + 1)) = askTo L D s k n (M.take q) ++ askM L D s k n M[q] := by
  rw [askTo, List.take_succ_eq_append_getElem hq, List.flatMap_append]; simp [askTo]
theorem askE_some {D : List ByteArray} {s : ByteArray} {k n : Int} {m : Int × Int} {x : En} {f : Fd} : askE D s k n m x = some f ↔ x.2.1 < D.length ∧ x.2.2 + k ≤ (docAt D x.2.1.toNat).size ∧ f.1 = x.2.1 ∧ aroundP (docAt D x.2.1.toNat) s k n x.2.2.toNat m.2.toNat = some f.2 := by
  unfold askE
  split
  · rename_i h
    rw [Option.map_eq_some_iff]
    constructor
    · rintro ⟨p, hp, rfl⟩
      exact ⟨h.1, h.2, rfl, hp⟩
    · rintro ⟨_, _, h1, h2⟩
      exact ⟨f.2, h2, by rw [← h1]⟩
  · rename_i h
    constructor
    · intro e; cases e
    · rintro ⟨h1, h2, _⟩
      exact absurd ⟨h1, h2⟩ h
theorem askTo_mem {L : List En} {D : List ByteArray} {s : ByteArray} {k n : Int} {M : List (Int × Int)} {f : Fd} : f ∈ askTo L D s k n M ↔ ∃ m ∈ M, ∃ x ∈ L, x.1 = m.1 ∧ askE D s k n m x = some f := by
  rw [askTo, List.mem_flatMap]
  constructor
  · rintro ⟨m, hm, h⟩
    rw [askM, List.mem_filterMap] at h
    obtain ⟨x, hx, h⟩ := h
    rw [withP, List.mem_filter] at hx
    exact ⟨m, hm, x, hx.1, by simpa using hx.2, h⟩
  · rintro ⟨m, hm, x, hx, he, h⟩
    exact ⟨m, hm, List.mem_filterMap.2 ⟨x, List.mem_filter.2 ⟨hx, by simpa using he⟩, h⟩⟩

theorem withP_len (L : List En) (p : Int) : (withP L p).length ≤ L.length := List.length_filter_le _ _
theorem askTo_len (L : List En) (D : List ByteArray) (s : ByteArray) (k n : Int) (M : List (Int × Int)) : (askTo L D s k n M).length ≤ M.length * L.length := by
  induction M with
  | nil => exact Nat.zero_le _
  | cons m M ih =>
    have h1 : (askM L D s k n m).length ≤ L.length := Nat.le_trans (List.length_filterMap_le _ _) (withP_len L m.1)
    have e : askTo L D s k n (m :: M) = askM L D s k n m ++ askTo L D s k n M := by rw [askTo, List.flatMap_cons]; rfl
    rw [e, List.length_append, List.length_cons, Nat.succ_mul]
    omega
theorem fm_yes {f : En → Option Fd} {E : List En} {j : Nat} {y : Fd} (hj : j < E.length) (h : f E[j] = some y) : (E.take (j + 1)).filterMap f = (E.take j).filterMap f ++ [y] := by
  rw [List.take_succ_eq_append_getElem hj, List.filterMap_append, List.filterMap_cons, h]; rfl
theorem fm_no {f : En → Option Fd} {E : List En} {j : Nat} (hj : j < E.length) (h : f E[j] = none) : (E.take (j + 1)).filterMap f = (E.take j).filterMap f := by
  rw [List.take_succ_eq_append_getElem hj, List.filterMap_append, List.filterMap_cons, h]; simp
open Classical in
/-- AskShelf. -/
noncomputable def ask8 (L : List En) (D : List ByteArray) (s : ByteArray) (k w n : Int) : List Fd := if shOk L ∧ 1 ≤ k ∧ 1 ≤ w ∧ 1 ≤ n then askR L D s k w n else []
theorem ask8_ok {L : List En} {D : List ByteArray} {s : ByteArray} {k w n : Int} (h : shOk L ∧ 1 ≤ k ∧ 1 ≤ w ∧ 1 ≤ n) : ask8 L D s k w n = askR L D s k w n := by rw [ask8, if_pos h]
theorem ask8_not {L : List En} {D : List ByteArray} {s : ByteArray} {k w n : Int} (h : ¬ (shOk L ∧ 1 ≤ k ∧ 1 ≤ w ∧ 1 ≤ n)) : ask8 L D s k w n = [] := by rw [ask8, if_neg h]

/-- Rows of what is found, text by text. -/
def byDocs (F : Nat → List En) (m : Nat) : List Fd := (List.range m).flatMap fun i => (F i).map fun p => ((i : Int), p)
theorem byDocs_next (F : Nat → List En) (m : Nat) : byDocs F (m + 1) = byDocs F m ++ (F m).map fun p => ((m : Int), p) := by
  rw [byDocs, List.range_succ, List.flatMap_append]; simp [byDocs]
theorem byDocs_mem {F : Nat → List En} {m : Nat} {f : Fd} : f ∈ byDocs F m ↔ ∃ i, i < m ∧ f.1 = i ∧ f.2 ∈ F i := by
  rw [byDocs, List.mem_flatMap]
  constructor
  · rintro ⟨i, hi, h⟩
    obtain ⟨p, hp, rfl⟩ := List.mem_map.1 h
    exact ⟨i, List.mem_range.1 hi, rfl, hp⟩
  · rintro ⟨i, hi, h1, h2⟩
    exact ⟨i, List.mem_range.2 hi, List.mem_map.2 ⟨f.2, h2, by rw [← h1]⟩⟩
theorem byDocs_up {F : Nat → List En} (h : ∀ i, (F i).Pairwise enLt) (m : Nat) : (byDocs F m).Pairwise fdLt := by
  induction m with
  | zero => exact .nil
  | succ m ih =>
    rw [byDocs_next, List.pairwise_append]
    refine ⟨ih, ?_, ?_⟩
    · rw [List.pairwise_map]
      exact List.Pairwise.imp (fun hab => .inr ⟨rfl, hab⟩) (h m)
    · intro x hx y hy
      obtain ⟨i, hi, h1, _⟩ := byDocs_mem.1 hx
      obtain ⟨p, _, rfl⟩ := List.mem_map.1 hy
      exact .inl (by simp only; omega)
theorem byDocs_same {F G : Nat → List En} {m : Nat} (h : ∀ i, i < m → F i = G i) : byDocs F m = byDocs G m := by
  induction m with
  | zero => rfl
  | succ m ih => rw [byDocs_next, byDocs_next, ih (fun i hi => h i (by omega)), h m (by omega)]
/-- AskAll. -/
def askAllL (D : List ByteArray) (s : ByteArray) (n : Int) : List Fd := byDocs (fun i => piecesT (docAt D i) s n) D.length
/-- By the shelf of all texts there is found what their marks find one by one. -/
theorem ask_found (D : List ByteArray) (s : ByteArray) {k w : Int} {N : Nat} (hN : 1 ≤ N) : askR (allN D k w D.length) D s k w N = byDocs (fun i => foundL (docAt D i) s k w N) D.length := by
  refine (pairwise_unique fdLt_irrefl (fun _ _ => fdLt_asymm) (byDocs_up (fun i => foundL_up _ _ _ _ _) _) (rowF_is _).up fun f => ?_).symm
  rw [rowF_mem, askTo_mem, byDocs_mem]
  constructor
  · rintro ⟨i, hi, h1, h2⟩
    obtain ⟨a, ha, b, hb, he, h3⟩ := (foundL_mem hN).1 h2
    obtain ⟨p, K, rfl, _, rfl, hp, _⟩ := mkL_in ha
    refine ⟨b, hb, (((prN (pieceL (docAt D i).data.toList K p) : Nat) : Int), (i : Int), (p : Int)), allN_mem.2 ⟨i, hi, rfl, ha⟩, he, ?_⟩
    rw [askE_some]
    refine ⟨by simp only; omega, ?_, h1, ?_⟩
    · simp only [Int.toNat_natCast]; omega
    · simp only [Int.toNat_natCast] at h3 ⊢
      exact h3
  · rintro ⟨m, hm, x, hx, he, h⟩
    obtain ⟨i, hi, h1, h2⟩ := allN_mem.1 hx
    obtain ⟨_, _, h5, h6⟩ := askE_some.1 h
    rw [h1, Int.toNat_natCast] at h6
    exact ⟨i, hi, by rw [h5, h1], (foundL_mem hN).2 ⟨_, h2, m, hm, he, h6⟩⟩
/-- If as many bytes are asked for as are sure it is all that there is. -/
theorem ask_all (D : List ByteArray) (s : ByteArray) {K W N : Nat} (hk : 1 ≤ K) (hw : 1 ≤ W) (hn : K + W - 1 ≤ N) : askR (allN D K W D.length) D s K W N = askAllL D s N := by
  rw [ask_found D s (by omega), askAllL]
  exact byDocs_same fun i _ => foundL_all hk hw hn
/-- A shelf with wrong entries tells nothing that is not so. -/
theorem ask_other {L : List En} (hL : ∀ x ∈ L, enOk x) {D : List ByteArray} {s : ByteArray} {k w : Int} {N : Nat} (hk : 1 ≤ k) (hN : 1 ≤ N) {f : Fd} (h : f ∈ askR L D s k w N) : f ∈ askAllL D s N := by
  rw [askR, rowF_mem, askTo_mem] at h
  obtain ⟨m, _, x, hx, _, h⟩ := h
  obtain ⟨h1, _, h2, h3⟩ := askE_some.1 h
  have h4 := hL x hx
  unfold enOk at h4
  rw [askAllL, byDocs_mem]
  exact ⟨x.2.1.toNat, by omega, by omega, around_piece hk hN h3⟩

end Go.Proofs.Ytclblnkeakkdeaa
