/-
  The contracts of the program's functions hasBytesFrom, PieceOk and PieceHas. Condition: texts have at most 2^22 bytes.
-/
import Derived.Test.YtclblnkeakkdeaaMg11
namespace Go.Proofs.Ytclblnkeakkdeaa
open Go.RowKit

theorem implHasFrom_is (r : Bool) (s : ByteArray) (x z : Int) (w : World) (hr : r = true ↔ 0 ≤ x ∧ 1 ≤ z ∧ z ≤ (s.size : Int) - x) (hx : x ≤ 9223372036854775807) (hs : s.size ≤ 4194304) :
    Calls Try.prog 125 #[.string s, .int .i64 x, .int .i64 z] w fun e w' => e = .returned (.bool r) ∧ w' = w := by
  have hfalse : ¬ (0 ≤ x ∧ 1 ≤ z ∧ z ≤ (s.size : Int) - x) → r = false := fun h => by
    rw [Bool.eq_false_iff]
    exact fun e => h (hr.1 e)
  have htrue := hr.2
  clear hr
  by_cases c0 : 0 ≤ x
  · have d0 : decide (0 ≤ x) = true := decide_eq_true c0
    by_cases c1 : 1 ≤ z
    · have d1 : decide (1 ≤ z) = true := decide_eq_true c1
      have e1 : IntKind.i64.wrap ((s.size : Int) - x) = (s.size : Int) - x := IntWalk.i64_in _ (by omega)
      by_cases c2 : z ≤ (s.size : Int) - x
      · have d2 : decide (z ≤ (s.size : Int) - x) = true := decide_eq_true c2
        obtain rfl : r = true := htrue ⟨c0, c1, c2⟩
        clear htrue hfalse
        go_enter Try.func125, Try.ntmps125
        go_wp2
        go_ret
        exact ⟨rfl, rfl⟩
      · have d2 : decide (z ≤ (s.size : Int) - x) = false := decide_eq_false c2
        obtain rfl : r = false := hfalse (fun h => c2 h.2.2)
        clear htrue hfalse
        go_enter Try.func125, Try.ntmps125
        go_wp2
        go_ret
        exact ⟨rfl, rfl⟩
    · have d1 : decide (1 ≤ z) = false := decide_eq_false c1
      obtain rfl : r = false := hfalse (fun h => c1 h.2.1)
      clear htrue hfalse
      go_enter Try.func125, Try.ntmps125
      go_wp2
      go_ret
      exact ⟨rfl, rfl⟩
  · have d0 : decide (0 ≤ x) = false := decide_eq_false c0
    obtain rfl : r = false := hfalse (fun h => c0 h.1)
    clear htrue hfalse
    go_enter Try.func125, Try.ntmps125
    go_wp2
    go_ret
    exact ⟨rfl, rfl⟩

set_option maxRecDepth 4000 in
set_option maxHeartbeats 4000000 in
theorem implPieceOk_is (r : Bool) (s t : ByteArray) (x y z : Int) (w : World) (hr : r = true ↔ okP s t (x, y, z)) (hx : x ≤ 9223372036854775807) (hy : y ≤ 9223372036854775807) (hs : s.size ≤ 4194304) (ht : t.size ≤ 4194304) :
    Calls Try.prog 115 #[.string s, .string t, .agg #[.int .i64 x, .int .i64 y, .int .i64 z]] w fun e w' => e = .returned (.bool r) ∧ Below w.heap.size w w' := by
  have HRr := Lib.hid hr
  have hfalse : ¬ okP s t (x, y, z) → r = false := fun h => by
    rw [Bool.eq_false_iff]
    exact fun e => h (hr.1 e)
  clear hr
  by_cases cA : 0 ≤ x ∧ 1 ≤ z ∧ z ≤ (s.size : Int) - x
  · have k1 := fun w => implHasFrom_is true s x z w ⟨fun _ => cA, fun _ => rfl⟩ hx hs
    by_cases cB : 0 ≤ y ∧ 1 ≤ z ∧ z ≤ (t.size : Int) - y
    · have k2 := fun w => implHasFrom_is true t y z w ⟨fun _ => cB, fun _ => rfl⟩ hy ht
      obtain ⟨X, rfl⟩ : ∃ X : Nat, x = X := ⟨x.toNat, by omega⟩
      obtain ⟨Y, rfl⟩ : ∃ X : Nat, y = X := ⟨y.toNat, by omega⟩
      obtain ⟨Z, rfl⟩ : ∃ X : Nat, z = X := ⟨z.toNat, by omega⟩
      obtain ⟨P, hP⟩ : ∃ P, s.extract X (X + Z) = P := ⟨_, rfl⟩
      obtain ⟨Q, hQ⟩ : ∃ P, t.extract Y (Y + Z) = P := ⟨_, rfl⟩
      have hPQ : P = Q ↔ r = true := by
        rw [← hP, ← hQ, extract_same (by omega) (by omega), HRr.out, okP_iff, Int.toNat_natCast, Int.toNat_natCast, Int.toNat_natCast]
        omega
      have sl1 : ∀ w, (Instr.slice 9 (.string s) (some (.int .i64 (X : Int))) (some (.int .i64 ((X : Int) + (Z : Int)))) none).run Try.prog w = .ok (.string P) w := fun w => by
        have h1 := run_slice_string (P := Try.prog) w 9 s .i64 .i64 (X : Int) ((X : Int) + (Z : Int)) Try.uls7 (by omega) (by omega) (by omega)
        rwa [Int.toNat_natCast, show ((X : Int) + (Z : Int)).toNat = X + Z by omega, hP] at h1
      have sl2 : ∀ w, (Instr.slice 9 (.string t) (some (.int .i64 (Y : Int))) (some (.int .i64 ((Y : Int) + (Z : Int)))) none).run Try.prog w = .ok (.string Q) w := fun w => by
        have h1 := run_slice_string (P := Try.prog) w 9 t .i64 .i64 (Y : Int) ((Y : Int) + (Z : Int)) Try.uls7 (by omega) (by omega) (by omega)
        rwa [Int.toNat_natCast, show ((Y : Int) + (Z : Int)).toNat = Y + Z by omega, hQ] at h1
      have e1 : IntKind.i64.wrap ((X : Int) + (Z : Int)) = (X : Int) + (Z : Int) := IntWalk.i64_in _ (by omega)
      have e2 : IntKind.i64.wrap ((Y : Int) + (Z : Int)) = (Y : Int) + (Z : Int) := IntWalk.i64_in _ (by omega)
      clear hP hQ hfalse HRr cA cB
      cases r with
      | true =>
        obtain rfl : P = Q := hPQ.2 rfl
        clear hPQ
        go_enter Try.func115, Try.ntmps115
        go_wp2_with fail
        refine (k1 _).mono ?_
        rintro e w2 ⟨rfl, rfl⟩
        go_wp2_with fail
        refine (k2 _).mono ?_
        rintro e w2 ⟨rfl, rfl⟩
        go_wp2
        go_quiet (fail)
        go_wp2
        go_ret
        exact ⟨rfl, below_drewN' ((Below.refl _ _).alloc (Nat.le_refl _) _) _⟩
      | false =>
        have hne : ¬ P = Q := fun e => absurd (hPQ.1 e) (by decide)
        have hb : (P.toList == Q.toList) = false := eq7_no hne
        clear hPQ
        go_enter Try.func115, Try.ntmps115
        go_wp2_with fail
        refine (k1 _).mono ?_
        rintro e w2 ⟨rfl, rfl⟩
        go_wp2_with fail
        refine (k2 _).mono ?_
        rintro e w2 ⟨rfl, rfl⟩
        go_wp2
        go_quiet (fail)
        go_wp2
        go_ret
        exact ⟨rfl, below_drewN' ((Below.refl _ _).alloc (Nat.le_refl _) _) _⟩
    · have k2 := fun w => implHasFrom_is false t y z w ⟨(fun h => absurd h (by decide)), fun h => absurd h cB⟩ hy ht
      obtain rfl : r = false := hfalse (by rw [okP_iff]; omega)
      clear hfalse HRr cA cB
      go_enter Try.func115, Try.ntmps115
      go_wp2_with fail
      refine (k1 _).mono ?_
      rintro e w2 ⟨rfl, rfl⟩
      go_wp2_with fail
      refine (k2 _).mono ?_
      rintro e w2 ⟨rfl, rfl⟩
      go_wp2
      go_ret
      exact ⟨rfl, (Below.refl _ _).alloc (Nat.le_refl _) _⟩
  · have k1 := fun w => implHasFrom_is false s x z w ⟨(fun h => absurd h (by decide)), fun h => absurd h cA⟩ hx hs
    obtain rfl : r = false := hfalse (by rw [okP_iff]; omega)
    clear hfalse HRr cA
    go_enter Try.func115, Try.ntmps115
    go_wp2_with fail
    refine (k1 _).mono ?_
    rintro e w2 ⟨rfl, rfl⟩
    go_wp2
    go_ret
    exact ⟨rfl, (Below.refl _ _).alloc (Nat.le_refl _) _⟩


end Go.Proofs.Ytclblnkeakkdeaa
