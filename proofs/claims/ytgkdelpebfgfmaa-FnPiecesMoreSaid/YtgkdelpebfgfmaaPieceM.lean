/-
  The contracts of the model's functions PieceOk, PieceHas and GrowPiece. Condition: texts have at most 2^22 bytes.
-/
import Derived.Test.YtgkdelpebfgfmaaSide
import Derived.Test.YtgkdelpebfgfmaaMathPiece
import Derived.Test.YtgkdelpebfgfmaaTri
import Derived.Test.YtgkdelpebfgfmaaProg
import Derived.Lib.Hide
import Derived.Deep.QuietTactic
import Derived.BigQuiet
import Derived.IntWalk
namespace Go.Proofs.Ytgkdelpebfgfmaa
open Go.RowKit

theorem Try.uls7 : Try.prog.underlying 9 = some .string := by kernel_rfl
theorem eq7_no {P Q : ByteArray} (h : ¬ P = Q) : (P.toList == Q.toList) = false := by
  rw [ByteArray.toList_eq, ByteArray.toList_eq]
  refine beq_eq_false_iff_ne.2 fun e => h (ByteArray.ext (Array.toList_inj.1 e))
theorem back_test {s t : ByteArray} {i j k : Nat} (hk : k ≤ backP s t i j) : (0 < i - k ∧ 0 < j - k ∧ sm s t (i - k - 1) (j - k - 1)) ↔ k < backP s t i j := by
  have hle := backP_le s t i j
  constructor
  · rintro ⟨h1, h2, h3⟩
    rcases Nat.lt_or_ge k (backP s t i j) with h | h
    · exact h
    · exfalso
      obtain rfl : k = backP s t i j := by omega
      have h4 := backP_first s t i j
      rw [backP_step h1 h2 h3] at h4
      omega
  · intro h
    have h1 := backP_same s t i j (backP s t i j - 1 - k) (by omega)
    rw [show i - backP s t i j + (backP s t i j - 1 - k) = i - k - 1 by omega, show j - backP s t i j + (backP s t i j - 1 - k) = j - k - 1 by omega] at h1
    exact ⟨by omega, by omega, h1⟩
theorem run_test {s t : ByteArray} {i j k : Nat} (hk : k ≤ runP s t i j) : sm s t (i + k) (j + k) ↔ k < runP s t i j := by
  constructor
  · intro h
    rcases Nat.lt_or_ge k (runP s t i j) with h1 | h1
    · exact h1
    · exfalso
      obtain rfl : k = runP s t i j := by omega
      exact runP_stop s t i j h
  · exact runP_same s t i j k
/-- A number that a block holds. -/
def cellN (w : World) (b j : Nat) : Nat := match w.cell? ⟨b, j, none⟩ with
  | some (.int _ a) => a.toNat
  | _ => 0
theorem cellN_is {w : World} {b j : Nat} {a : Int} (h : w.cell? ⟨b, j, none⟩ = some (.int .i64 a)) : cellN w b j = a.toNat := by rw [cellN, h]

set_option maxRecDepth 4000 in
set_option maxHeartbeats 4000000 in
theorem specPieceOk_is (r : Bool) (s t : ByteArray) (x y z : Int) (w : World) (hr : r = true ↔ okP s t (x, y, z)) (hs : s.size ≤ 4194304) (ht : t.size ≤ 4194304) :
    Calls Try.prog 19 #[.string s, .string t, .agg #[.int .i64 x, .int .i64 y, .int .i64 z]] w fun e w' => e = .returned (.bool r) ∧ Below w.heap.size w w' := by
  have HRr := Lib.hid hr
  have hfalse : ¬ okP s t (x, y, z) → r = false := fun h => by
    rw [Bool.eq_false_iff]
    exact fun e => h (hr.1 e)
  clear hr
  by_cases c0 : x < 0
  · obtain rfl : r = false := hfalse (by rw [okP_iff]; omega)
    clear hfalse HRr
    go_enter Try.func19, Try.ntmps19
    go_wp2
    go_ret
    exact ⟨rfl, (Below.refl _ _).alloc (Nat.le_refl _) _⟩
  by_cases c1 : y < 0
  · obtain rfl : r = false := hfalse (by rw [okP_iff]; omega)
    clear hfalse HRr
    go_enter Try.func19, Try.ntmps19
    go_wp2
    go_ret
    exact ⟨rfl, (Below.refl _ _).alloc (Nat.le_refl _) _⟩
  by_cases c2 : z < 1
  · obtain rfl : r = false := hfalse (by rw [okP_iff]; omega)
    clear hfalse HRr
    go_enter Try.func19, Try.ntmps19
    go_wp2
    go_ret
    exact ⟨rfl, (Below.refl _ _).alloc (Nat.le_refl _) _⟩
  by_cases c3 : (s.size : Int) < x
  · obtain rfl : r = false := hfalse (by rw [okP_iff]; omega)
    clear hfalse HRr
    go_enter Try.func19, Try.ntmps19
    go_wp2
    go_ret
    exact ⟨rfl, (Below.refl _ _).alloc (Nat.le_refl _) _⟩
  by_cases c4 : (t.size : Int) < y
  · obtain rfl : r = false := hfalse (by rw [okP_iff]; omega)
    clear hfalse HRr
    go_enter Try.func19, Try.ntmps19
    go_wp2
    go_ret
    exact ⟨rfl, (Below.refl _ _).alloc (Nat.le_refl _) _⟩
  by_cases c5 : (s.size : Int) - x < z
  · obtain rfl : r = false := hfalse (by rw [okP_iff]; omega)
    clear hfalse HRr
    go_enter Try.func19, Try.ntmps19
    go_wp2
    go_ret
    exact ⟨rfl, (Below.refl _ _).alloc (Nat.le_refl _) _⟩
  by_cases c6 : (t.size : Int) - y < z
  · obtain rfl : r = false := hfalse (by rw [okP_iff]; omega)
    clear hfalse HRr
    go_enter Try.func19, Try.ntmps19
    go_wp2
    go_ret
    exact ⟨rfl, (Below.refl _ _).alloc (Nat.le_refl _) _⟩
  obtain ⟨X, rfl⟩ : ∃ X : Nat, x = X := ⟨x.toNat, by omega⟩
  obtain ⟨Y, rfl⟩ : ∃ X : Nat, y = X := ⟨y.toNat, by omega⟩
  obtain ⟨Z, rfl⟩ : ∃ X : Nat, z = X := ⟨z.toNat, by omega⟩
  obtain ⟨P, hP⟩ : ∃ P, s.extract X (X + Z) = P := ⟨_, rfl⟩
  obtain ⟨Q, hQ⟩ : ∃ P, t.extract Y (Y + Z) = P := ⟨_, rfl⟩
  have hPQ : P = Q ↔ r = true := by
    rw [← hP, ← hQ, extract_same (by omega) (by omega), HRr.out, okP_iff, Int.toNat_natCast, Int.toNat_natCast, Int.toNat_natCast]
    omega
  have sl1 : ∀ w, (Instr.slice 9 (.string s) (some (.int .i64 (X : Int))) (some (.int .i64 ((X : Int) + (Z : Int)))) none).run Try.prog w = .ok (.string P) w := fun w => by
    have h1 := run_slice_string (P := Try.prog) w 9 s .i64 .i64 (X : Int) ((X : Int) + (Z : Int)) Try.uls7 (by omega) (by omega) (by omega)
    rwa [Int.toNat_natCast, show ((X : Int) + (Z : Int)).toNat = X + Z by omega, hP] at h1
  have sl2 : ∀ w, (Instr.slice 9 (.string t) (some (.int .i64 (Y : Int))) (some (.int .i64 ((Y : Int) + (Z : Int)))) none).run Try.prog w = .ok (.string Q) w := fun w => by
    have h1 := run_slice_string (P := Try.prog) w 9 t .i64 .i64 (Y : Int) ((Y : Int) + (Z : Int)) Try.uls7 (by omega) (by omega) (by omega)
    rwa [Int.toNat_natCast, show ((Y : Int) + (Z : Int)).toNat = Y + Z by omega, hQ] at h1
  clear hP hQ hfalse HRr
  cases r with
  | true =>
    obtain rfl : P = Q := hPQ.2 rfl
    clear hPQ
    go_enter Try.func19, Try.ntmps19
    go_wp2
    go_quiet (fail)
    go_wp2
    go_ret
    exact ⟨rfl, below_drewN' ((Below.refl _ _).alloc (Nat.le_refl _) _) _⟩
  | false =>
    have hne : ¬ P = Q := fun e => absurd (hPQ.1 e) (by decide)
    have hb : (P.toList == Q.toList) = false := eq7_no hne
    clear hPQ
    go_enter Try.func19, Try.ntmps19
    go_wp2
    go_quiet (fail)
    go_wp2
    go_ret
    exact ⟨rfl, below_drewN' ((Below.refl _ _).alloc (Nat.le_refl _) _) _⟩

set_option maxRecDepth 4000 in
set_option maxHeartbeats 2000000 in
theorem specHas_is (r : Bool) (x y z i j n : Int) (w : World) (hr : r = true ↔ hasP (x, y, z) i j n) (hx : x ≤ 9223372036854775807) (hy : y ≤ 9223372036854775807) (hz : z ≤ 9223372036854775807) (hi : i ≤ 9223372036854775807) (hj : j ≤ 9223372036854775807) :
    Calls Try.prog 23 #[.agg #[.int .i64 x, .int .i64 y, .int .i64 z], .int .i64 i, .int .i64 j, .int .i64 n] w fun e w' => e = .returned (.bool r) ∧ Below w.heap.size w w' := by
  have hq : r = true ↔ (0 ≤ x ∧ 0 ≤ y ∧ 0 ≤ z ∧ 0 ≤ i ∧ 0 ≤ j) ∧ 1 ≤ n ∧ x ≤ i ∧ i - x ≤ z ∧ n ≤ z - (i - x) ∧ j - y = i - x ∧ y ≤ j := hr
  clear hr
  have hfalse : ¬ ((0 ≤ x ∧ 0 ≤ y ∧ 0 ≤ z ∧ 0 ≤ i ∧ 0 ≤ j) ∧ 1 ≤ n ∧ x ≤ i ∧ i - x ≤ z ∧ n ≤ z - (i - x) ∧ j - y = i - x ∧ y ≤ j) → r = false := fun h => by
    rw [Bool.eq_false_iff]
    exact fun e => h (hq.1 e)
  have htrue := hq.2
  clear hq
  by_cases c0 : x < 0
  · obtain rfl : r = false := hfalse (by omega)
    clear hfalse htrue
    go_enter Try.func23, Try.ntmps23
    go_wp2
    go_ret
    exact ⟨rfl, (Below.refl _ _).alloc (Nat.le_refl _) _⟩
  by_cases c1 : y < 0
  · obtain rfl : r = false := hfalse (by omega)
    clear hfalse htrue
    go_enter Try.func23, Try.ntmps23
    go_wp2
    go_ret
    exact ⟨rfl, (Below.refl _ _).alloc (Nat.le_refl _) _⟩
  by_cases c2 : z < 0
  · obtain rfl : r = false := hfalse (by omega)
    clear hfalse htrue
    go_enter Try.func23, Try.ntmps23
    go_wp2
    go_ret
    exact ⟨rfl, (Below.refl _ _).alloc (Nat.le_refl _) _⟩
  by_cases c3 : i < 0
  · obtain rfl : r = false := hfalse (by omega)
    clear hfalse htrue
    go_enter Try.func23, Try.ntmps23
    go_wp2
    go_ret
    exact ⟨rfl, (Below.refl _ _).alloc (Nat.le_refl _) _⟩
  by_cases c4 : j < 0
  · obtain rfl : r = false := hfalse (by omega)
    clear hfalse htrue
    go_enter Try.func23, Try.ntmps23
    go_wp2
    go_ret
    exact ⟨rfl, (Below.refl _ _).alloc (Nat.le_refl _) _⟩
  by_cases c5 : ¬ 1 ≤ n
  · obtain rfl : r = false := hfalse (by omega)
    clear hfalse htrue
    go_enter Try.func23, Try.ntmps23
    go_wp2
    go_ret
    exact ⟨rfl, (Below.refl _ _).alloc (Nat.le_refl _) _⟩
  by_cases c6 : ¬ x ≤ i
  · obtain rfl : r = false := hfalse (by omega)
    clear hfalse htrue
    go_enter Try.func23, Try.ntmps23
    go_wp2
    go_ret
    exact ⟨rfl, (Below.refl _ _).alloc (Nat.le_refl _) _⟩
  by_cases c7 : ¬ i - x ≤ z
  · obtain rfl : r = false := hfalse (by omega)
    clear hfalse htrue
    go_enter Try.func23, Try.ntmps23
    go_wp2
    go_ret
    exact ⟨rfl, (Below.refl _ _).alloc (Nat.le_refl _) _⟩
  by_cases c8 : ¬ n ≤ z - (i - x)
  · obtain rfl : r = false := hfalse (by omega)
    clear hfalse htrue
    go_enter Try.func23, Try.ntmps23
    go_wp2
    go_ret
    exact ⟨rfl, (Below.refl _ _).alloc (Nat.le_refl _) _⟩
  by_cases c9 : ¬ j - y = i - x
  · obtain rfl : r = false := hfalse (by omega)
    clear hfalse htrue
    have tq : ((j - y) == (i - x)) = false := by simpa using c9
    go_enter Try.func23, Try.ntmps23
    go_wp2
    go_ret
    exact ⟨rfl, (Below.refl _ _).alloc (Nat.le_refl _) _⟩
  have tq : ((j - y) == (i - x)) = true := by simpa using c9
  have c10 : y ≤ j := by omega
  obtain rfl : r = true := htrue (by omega)
  clear hfalse htrue
  go_enter Try.func23, Try.ntmps23
  go_wp2
  go_ret
  exact ⟨rfl, (Below.refl _ _).alloc (Nat.le_refl _) _⟩

end Go.Proofs.Ytgkdelpebfgfmaa
