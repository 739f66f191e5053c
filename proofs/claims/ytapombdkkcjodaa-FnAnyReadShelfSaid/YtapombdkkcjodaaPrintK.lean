/-
  The contracts of the program's PrintsOf and FindPrint, and of the model's FindPrint. Condition: texts have at most 2^22 bytes.
-/
import Derived.Test.YtapombdkkcjodaaPrintI
import Derived.Test.YtapombdkkcjodaaPrintRows
import Derived.Test.YtapombdkkcjodaaApart
namespace Go.Proofs.Ytapombdkkcjodaa
open Go.RowKit

theorem One.lit (w : World) (e : TypeId) (v : Value) : One w w.heap.size (w.alloc (.cells #[v] e)) e 1 (some ⟨w.heap.size, 0, none⟩) 1 1 [v] :=
  ⟨World.ownsRow_lit w #[v] 1 (Nat.le_refl _) (by unfold maxLen; omega) (by simp), heap_le_alloc _ _, (Below.refl _ _).alloc (Nat.le_refl _) _⟩



theorem printsL_bad {s : List UInt8} {k : Int} (h : k < 1 ∨ (s.length : Int) < k) : printsL s k = [] := by unfold printsL; rw [if_pos h]
theorem printsL_ok {s : List UInt8} {k : Nat} (h1 : 0 < k) (h2 : k ≤ s.length) : printsL s (k : Int) = printsTo s k (s.length - k + 1) := by
  unfold printsL; rw [if_neg (by omega), Int.toNat_natCast]

theorem specPrintsOf_is (s : ByteArray) (k : Int) (L : List Int) (w : World) (hs : s.size ≤ 4194304) (hL : printsL s.data.toList k = L) :
    Calls Try.prog 48 #[.string s, .int .i64 k] w fun e w' => ∃ a n c, e = .returned (.slice a n c) ∧ One w w.heap.size w' 3 1 a n c (intCells L) := by
  by_cases h : k < 1 ∨ (s.size : Int) < k
  · rw [printsL_bad h] at hL; subst hL; exact specPrintsOf_bad s k w h
  · obtain ⟨j, rfl⟩ : ∃ j : Nat, k = j := ⟨k.toNat, by omega⟩
    have e := printsL_ok (s := s.data.toList) (k := j) (by omega) (show j ≤ s.size by omega)
    rw [e] at hL; subst hL
    exact specPrintsOf_ok s j w hs (by omega) (by omega)

/-! ### Places of a piece -/
theorem findTo_len (s p : List UInt8) (m : Nat) : (findTo s p m).length ≤ m := by
  induction m with
  | zero => simp [findTo]
  | succ m ih =>
    unfold findTo
    split
    · simp; omega
    · omega

/-- What a walk over the fingerprints of a piece's length knows of them. -/
structure FindKnown (s p : ByteArray) (L : List Int) (n : Nat) : Prop where
  len : L.length ≤ s.size
  fits : ∀ i, i < L.length → i + p.size ≤ s.size
  print : ∀ i, i < L.length → L.getD i 0 = (prN (pieceL s.data.toList p.size i) : Nat)
  all : findTo s.data.toList p.data.toList L.length = findL s.data.toList p.data.toList
  one : n = prN p.data.toList

theorem find_known (s p : ByteArray) (L : List Int) (n : Nat) (hL : printsL s.data.toList (p.size : Int) = L) (hn : prN p.data.toList = n) : FindKnown s p L n := by
  have hsl : s.data.toList.length = s.size := rfl
  have hpl : p.data.toList.length = p.size := rfl
  by_cases h : (p.size : Int) < 1 ∨ (s.size : Int) < (p.size : Int)
  · rw [printsL_bad h] at hL
    subst hL
    refine ⟨by simp, fun i hi => by simp at hi, fun i hi => by simp at hi, ?_, hn.symm⟩
    unfold findL
    rw [if_pos (by omega)]
    rfl
  · have e := printsL_ok (s := s.data.toList) (k := p.size) (by omega) (by omega)
    rw [e] at hL
    subst hL
    refine ⟨by rw [printsTo_len]; omega, fun i hi => by rw [printsTo_len] at hi; omega, fun i hi => ?_, ?_, hn.symm⟩
    · rw [printsTo_len] at hi
      exact printsTo_get _ _ _ _ hi
    · unfold findL
      rw [if_neg (by omega), printsTo_len, hpl]

theorem toListP_inj {a b : ByteArray} (h : a.toList = b.toList) : a = b := by
  rw [ByteArray.toList_eq, ByteArray.toList_eq] at h
  exact ByteArray.ext (Array.toList_inj.1 h)
theorem eqP_no {a b : ByteArray} (h : a ≠ b) : (a.toList == b.toList) = false := by
  rw [Bool.eq_false_iff]
  intro e
  exact h (toListP_inj (by simpa using e))
theorem extract_piece (s : ByteArray) (i k : Nat) : (s.extract i (i + k)).data.toList = pieceL s.data.toList k i := by
  rw [ByteArray.data_extract, Array.toList_extract, List.extract_eq_take_drop, pieceL]
  congr 1
  omega
theorem piece_iff (s p : ByteArray) (i : Nat) : s.extract i (i + p.size) = p ↔ pieceL s.data.toList p.data.toList.length i = p.data.toList := by
  have hpl : p.data.toList.length = p.size := rfl
  rw [hpl, ← extract_piece]
  constructor
  · intro h; rw [h]
  · intro h; exact ByteArray.ext (Array.toList_inj.1 h)

theorem findTo_yes {s p : List UInt8} {i : Nat} (h : pieceL s p.length i = p) : intCells (findTo s p (i + 1)) = intCells (findTo s p i) ++ [.int .i64 i] := by
  rw [findTo, if_pos h, intCells_append]; rfl
theorem findTo_no {s p : List UInt8} {i : Nat} (h : ¬ pieceL s p.length i = p) : findTo s p (i + 1) = findTo s p i := by
  rw [findTo, if_neg h]

theorem cells_int {w : World} {b o : Nat} {L : List Int} (i : Nat) (x : Int) (hx : L.getD i 0 = x) (hi : i < L.length) (hc : ∀ j v, (intCells L)[j]? = some v → w.cell? ⟨b, o + j, none⟩ = some v) : w.cell? ⟨b, o + i, none⟩ = some (.int .i64 x) := by
  refine hc i _ ?_
  subst hx
  simp [intCells, List.getD, List.getElem?_eq_getElem hi]

end Go.Proofs.Ytapombdkkcjodaa
