/-
  Plain mathematics of chapter 1 (what a byte becomes); nothing of the program is read here. No conditions.
-/
import Derived.WalkKit
namespace Go.Proofs.Ytehppjilnacjlaa

/-- What a byte becomes in a text that is made alike. -/
def signOf (b : Int) : Int :=
  if b < 0 ∨ 255 < b then -1
  else if 65 ≤ b ∧ b ≤ 90 then b + 32
  else if (97 ≤ b ∧ b ≤ 122) ∨ (48 ≤ b ∧ b ≤ 57) ∨ 128 ≤ b then b
  else 32

theorem signOf_none {b : Int} (h : b < 0 ∨ 255 < b) : signOf b = -1 := by unfold signOf; rw [if_pos h]
theorem signOf_great {b : Int} (h1 : 65 ≤ b) (h2 : b ≤ 90) : signOf b = b + 32 := by
  unfold signOf; rw [if_neg (by omega), if_pos ⟨h1, h2⟩]
theorem signOf_same {b : Int} (h0 : 0 ≤ b) (h9 : b ≤ 255) (h : (97 ≤ b ∧ b ≤ 122) ∨ (48 ≤ b ∧ b ≤ 57) ∨ 128 ≤ b) : signOf b = b := by
  unfold signOf; rw [if_neg (by omega), if_neg (by omega), if_pos h]
theorem signOf_gap {b : Int} (h0 : 0 ≤ b) (h9 : b < 128) (h1 : b < 65 ∨ 90 < b) (h2 : b < 97 ∨ 122 < b) (h3 : b < 48 ∨ 57 < b) : signOf b = 32 := by
  unfold signOf; rw [if_neg (by omega), if_neg (by omega), if_neg (by omega)]

/-- The ways on which a number goes: each is one row of tests. -/
theorem signOf_ways (b : Int) : b < 0 ∨ 255 < b ∨ (0 ≤ b ∧ b < 48) ∨ (48 ≤ b ∧ b ≤ 57) ∨ (57 < b ∧ b < 65) ∨ (65 ≤ b ∧ b ≤ 90) ∨ (90 < b ∧ b < 97) ∨ (97 ≤ b ∧ b ≤ 122) ∨ (122 < b ∧ b < 128) ∨ (128 ≤ b ∧ b ≤ 255) := by omega

end Go.Proofs.Ytehppjilnacjlaa
