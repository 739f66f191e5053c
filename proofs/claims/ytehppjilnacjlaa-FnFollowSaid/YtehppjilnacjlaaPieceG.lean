/-
  The contract of the model's function GrowPiece. Condition: texts have at most 2^22 bytes.
-/
import Derived.Test.YtehppjilnacjlaaPieceM
namespace Go.Proofs.Ytehppjilnacjlaa
open Go.RowKit

theorem own_nil7 (b : Nat) : (Value.slice none 0 0).ownBlock ≠ some b := by simp [Value.ownBlock]
theorem below_set7 {B : Nat} {a w : World} (h : Below B a w) {b : Nat} (hb : B ≤ b) (j : Nat) (v : Value) : Below B a (w.setCell ⟨b, j, none⟩ v) := h.setCell (p := ⟨b, j, none⟩) hb v
theorem growT_triple {s t : ByteArray} {i j x y z : Int} {b : Bool} (h : growT s t i j = ((x, y, z), b)) : (∃ I J : Nat, i = I ∧ j = J ∧ sm s t I J ∧ b = true ∧ x = ((I - backP s t I J : Nat) : Int) ∧ y = ((J - backP s t I J : Nat) : Int) ∧ z = ((runP s t (I - backP s t I J) (J - backP s t I J) : Nat) : Int)) ∨ (¬ (0 ≤ i ∧ 0 ≤ j ∧ sm s t i.toNat j.toNat) ∧ b = false ∧ x = 0 ∧ y = 0 ∧ z = 0) := by
  by_cases hc : 0 ≤ i ∧ 0 ≤ j ∧ sm s t i.toNat j.toNat
  · left
    refine ⟨i.toNat, j.toNat, by omega, by omega, hc.2.2, ?_⟩
    rw [growT, if_pos hc, growN] at h
    simp only [Prod.mk.injEq] at h
    obtain ⟨⟨h1, h2, h3⟩, h4⟩ := h
    exact ⟨h4.symm, h1.symm, h2.symm, h3.symm⟩
  · right
    rw [growT_no hc] at h
    simp only [Prod.mk.injEq] at h
    obtain ⟨⟨h1, h2, h3⟩, h4⟩ := h
    exact ⟨hc, h4.symm, h1.symm, h2.symm, h3.symm⟩
theorem not_sm {s t : ByteArray} {i j : Nat} (h : ¬ sm s t i j) (hi : i < s.size) (hj : j < t.size) : ((s[i].toNat : Int) == (t[j].toNat : Int)) = false ∧ ((s[i].toNat : Int) != (t[j].toNat : Int)) = true := by
  have e : ¬ (s[i].toNat : Int) = (t[j].toNat : Int) := fun e => h ⟨hi, hj, by rw [bt_at hi, bt_at hj]; omega⟩
  have e2 : ((s[i].toNat : Int) == (t[j].toNat : Int)) = false := beq_eq_false_iff_ne.2 e
  exact ⟨e2, by rw [bne, e2]; rfl⟩
theorem is_sm {s t : ByteArray} {i j : Nat} (h : sm s t i j) (hi : i < s.size) (hj : j < t.size) : (s[i].toNat : Int) = (t[j].toNat : Int) ∧ ((s[i].toNat : Int) == (t[j].toNat : Int)) = true ∧ ((s[i].toNat : Int) != (t[j].toNat : Int)) = false := by
  have h3 := h.2.2
  rw [bt_at hi, bt_at hj] at h3
  have e : (s[i].toNat : Int) = (t[j].toNat : Int) := by omega
  have e2 : ((s[i].toNat : Int) == (t[j].toNat : Int)) = true := by rw [e]; exact beq_self_eq_true _
  exact ⟨e, e2, by rw [bne, e2]; rfl⟩


end Go.Proofs.Ytehppjilnacjlaa
