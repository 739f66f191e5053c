/-
  Plain mathematics of chapter 1: the signs of a text, counted by their kinds. No conditions.
-/
import Derived.Test.YtnbogoklmjnneaaMathAlike
namespace Go.Proofs.Ytnbogoklmjnneaa

/-- How many signs of the first k are plain, high, spaces. -/
def cntP (t : List UInt8) : Nat → Nat
  | 0 => 0
  | k + 1 => cntP t k + (if (t.getD k 0).toNat ≠ 32 ∧ (t.getD k 0).toNat < 128 then 1 else 0)
def cntH (t : List UInt8) : Nat → Nat
  | 0 => 0
  | k + 1 => cntH t k + (if 128 ≤ (t.getD k 0).toNat then 1 else 0)
def cntS (t : List UInt8) : Nat → Nat
  | 0 => 0
  | k + 1 => cntS t k + (if (t.getD k 0).toNat = 32 then 1 else 0)

theorem cnt_sum (t : List UInt8) (k : Nat) : cntP t k + cntH t k + cntS t k = k := by
  induction k with
  | zero => rfl
  | succ k ih =>
    simp only [cntP, cntH, cntS]
    split <;> split <;> split <;> omega

theorem cnt_space {t : ByteArray} {k : Nat} (h : k < t.size) (hb : t[k].toNat = 32) : cntP t.data.toList (k + 1) = cntP t.data.toList k ∧ cntH t.data.toList (k + 1) = cntH t.data.toList k ∧ cntS t.data.toList (k + 1) = cntS t.data.toList k + 1 := by
  simp only [cntP, cntH, cntS, getD_at t k h, hb]
  exact ⟨rfl, rfl, rfl⟩
theorem cnt_high {t : ByteArray} {k : Nat} (h : k < t.size) (hb : 128 ≤ t[k].toNat) : cntP t.data.toList (k + 1) = cntP t.data.toList k ∧ cntH t.data.toList (k + 1) = cntH t.data.toList k + 1 ∧ cntS t.data.toList (k + 1) = cntS t.data.toList k := by
  simp only [cntP, cntH, cntS, getD_at t k h]
  rw [if_neg (by omega), if_pos hb, if_neg (by omega)]
  exact ⟨rfl, rfl, rfl⟩
theorem cnt_plain {t : ByteArray} {k : Nat} (h : k < t.size) (h1 : t[k].toNat ≠ 32) (hb : t[k].toNat < 128) : cntP t.data.toList (k + 1) = cntP t.data.toList k + 1 ∧ cntH t.data.toList (k + 1) = cntH t.data.toList k ∧ cntS t.data.toList (k + 1) = cntS t.data.toList k := by
  simp only [cntP, cntH, cntS, getD_at t k h]
  rw [if_pos ⟨h1, hb⟩, if_neg (by omega), if_neg h1]
  exact ⟨rfl, rfl, rfl⟩

end Go.Proofs.Ytnbogoklmjnneaa
