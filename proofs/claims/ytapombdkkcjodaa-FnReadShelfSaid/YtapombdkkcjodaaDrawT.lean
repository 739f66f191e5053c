/-
  The contracts of the draws of chapter 6's laws PutNumber and TakeNumber. No conditions.
-/
import Derived.Test.YtapombdkkcjodaaDrawS
namespace Go.Proofs.Ytapombdkkcjodaa
open Go.RowKit

theorem rd_step6 {w w1 w2 : World} {g : Nat} (h : w.grownBy w1 (some g)) (k : w1.grownBy w2 (some g)) : w.grownBy w2 (some g) := grownBy_trans h k
theorem prod_bound {x y p : Int} (hx0 : 0 ≤ x) (hx : x ≤ 65025) (hy0 : 0 ≤ y) (hy : y ≤ 255) (hp : x * y = p) : 0 ≤ p ∧ p ≤ 16581375 := by
  subst hp
  refine ⟨Int.mul_nonneg hx0 hy0, ?_⟩
  have h1 : x * y ≤ 65025 * y := Int.mul_le_mul_of_nonneg_right hx hy0
  omega
theorem prod_bound2 {x y p : Int} (hx0 : 0 ≤ x) (hx : x ≤ 255) (hy0 : 0 ≤ y) (hy : y ≤ 255) (hp : x * y = p) : 0 ≤ p ∧ p ≤ 65025 := by
  subst hp
  refine ⟨Int.mul_nonneg hx0 hy0, ?_⟩
  have h1 : x * y ≤ 255 * y := Int.mul_le_mul_of_nonneg_right hx hy0
  omega

set_option maxRecDepth 4000 in
set_option maxHeartbeats 4000000 in
theorem DrawPutNumber_any (w : World) (a : Option Addr) (len cap : Nat) (zs : List Int) (h : IsRowK .u8 w a len cap zs) :
    Calls Try.prog 10 #[.slice a len cap] w fun e w' => ∃ x : Int, e = .returned (.int .i64 x) ∧ x ≤ 9223372036854775807 ∧ Below w.heap.size w w' := by
  go_enter Try.func10, Try.ntmps10
  go_wp2_with fail
  refine (open_any _ _ _ _ _ h).mono ?_
  rintro e w1 ⟨n, rfl, hrd, hb, hs⟩
  clear h
  go_wp2_with fail
  refine (pick_pos _ _ a n cap 0 300 (by omega) hrd (by omega) (by omega)).mono ?_
  rintro e w2 ⟨r2, hr2, rfl, hrd2, hg2⟩
  go_wp2_with fail
  refine (pick_pos _ _ a n cap _ 9 (by omega) hrd2 (by omega) (by omega)).mono ?_
  rintro e w3 ⟨r3, hr3, rfl, hrd3, hg3⟩
  have hg3 := grownBy_trans hg2 hg3
  clear hrd hrd2 hg2
  go_wp2_with fail
  refine (pick_pos _ _ a n cap _ 256 (by omega) hrd3 (by omega) (by omega)).mono ?_
  rintro e w4 ⟨r4, hr4, rfl, hrd4, hg4⟩
  have hg4 := grownBy_trans hg3 hg4
  clear hrd3 hg3
  go_wp2_with fail
  refine (pick_pos _ _ a n cap _ 256 (by omega) hrd4 (by omega) (by omega)).mono ?_
  rintro e w5 ⟨r5, hr5, rfl, hrd5, hg5⟩
  have hg5 := grownBy_trans hg4 hg5
  clear hrd4 hg4
  obtain ⟨p, hp⟩ : ∃ p : Int, (r4 : Int) * (r5 : Int) = p := ⟨_, rfl⟩
  obtain ⟨p0, p9⟩ := prod_bound2 (by omega) (by omega) (by omega) (by omega) hp
  go_wp2_with fail
  refine (pick_pos _ _ a n cap _ 256 (by omega) hrd5 (by omega) (by omega)).mono ?_
  rintro e w6 ⟨r6, hr6, rfl, hrd6, hg6⟩
  have hg6 := grownBy_trans hg5 hg6
  clear hrd5 hg5
  obtain ⟨q, hq⟩ : ∃ q : Int, p * (r6 : Int) = q := ⟨_, rfl⟩
  obtain ⟨q0, q9⟩ := prod_bound p0 p9 (by omega) (by omega) hq
  go_wp2_with fail
  refine (pick_pos _ _ a n cap _ 9 (by omega) (rd_alloc hrd6 _) (by omega) (by omega)).mono ?_
  rintro e w7 ⟨r, hr, rfl, hrd7, hg7⟩
  have hrow := laid_row hg7 hrd6.lt
  have hB := below_rdD hb hs (grownBy_trans (grownBy_trans hg6 (World.grownBy_alloc w6 _ _)) hg7)
  clear hrd6 hg6 hrd7 hg7
  obtain ⟨hs7, hhs⟩ : ∃ hs, w6.heap.size = hs := ⟨_, rfl⟩
  rw [hhs] at hrow
  rw [hhs]
  have kc := fun j => cell_of_row w7 hs7 j _ _ _ hrow
  obtain ⟨x, hx9, q1⟩ : ∃ x : Int, x ≤ 9223372036854775807 ∧ w7.cell? ⟨hs7, r, none⟩ = some (.int .i64 x) := by
    rw [kc]
    have : r = 0 ∨ r = 1 ∨ r = 2 ∨ r = 3 ∨ r = 4 ∨ r = 5 ∨ r = 6 ∨ r = 7 ∨ r = 8 := by omega
    rcases this with rfl | rfl | rfl | rfl | rfl | rfl | rfl | rfl | rfl
    · exact ⟨r2, by omega, rfl⟩
    · exact ⟨-1, by omega, rfl⟩
    · exact ⟨127, by omega, rfl⟩
    · exact ⟨128, by omega, rfl⟩
    · exact ⟨16383, by omega, rfl⟩
    · exact ⟨16384, by omega, rfl⟩
    · exact ⟨4611686018427387904 + (r3 : Int), by omega, rfl⟩
    · exact ⟨9223372036854775807, by omega, rfl⟩
    · exact ⟨q, by omega, rfl⟩
  clear kc hrow hhs
  have z2 : (r : Int) < 9 := by omega
  have z3 : (0 : Int) ≤ (r : Int) := by omega
  go_wp2
  go_ret
  exact ⟨x, rfl, hx9, hB⟩

set_option maxRecDepth 4000 in
set_option maxHeartbeats 8000000 in
theorem DrawTakeNumber_any (w : World) (a : Option Addr) (len cap : Nat) (zs : List Int) (h : IsRowK .u8 w a len cap zs) :
    Calls Try.prog 15 #[.slice a len cap] w fun e w' => ∃ (s : ByteArray) (i : Int), e = .returned (.tuple #[.string s, .int .i64 i]) ∧ s.size ≤ 40 ∧ i ≤ 100 ∧ Below w.heap.size w w' := by
  go_enter Try.func15, Try.ntmps15
  go_wp2_with fail
  refine (open_any _ _ _ _ _ h).mono ?_
  rintro e w1 ⟨n, rfl, hrd, hb, hs⟩
  obtain ⟨g, hg⟩ : ∃ g, w.heap.size = g := ⟨_, rfl⟩
  have HB := Lib.hid hb
  have HS := Lib.hid hs
  have HGG := Lib.hid hg
  rw [hg] at hrd
  rw [hg]
  have hlt := hrd.lt
  clear h hb hs hg
  go_wp2_with fail
  refine (pick_pos _ _ a n cap 0 5 (by omega) hrd (by omega) (by omega)).mono ?_
  rintro e w2 ⟨k0, hk0, rfl, hrd2, hg2⟩
  have hk4 : k0 ≤ 4 := by omega
  clear hrd
  go_wp2
  go_loopw [5, 6] (fun v i wr => ∃ (k : Nat) (s : ByteArray), k ≤ 4 ∧ i = .int .i64 (k : Int) ∧ v = .string s ∧ Hid (s.size ≤ 10 * (4 - k)) ∧ RdAt wr g a n cap (1 + (4 - k) * 2) ∧ w1.grownBy wr (some g)) (fun _ i _ => (intOf i).toNat)
  case atStart => exact ⟨k0, ⟨#[]⟩, hk4, rfl, rfl, Lib.hid (by show 0 ≤ _; omega), hrd2.more (by omega), hg2⟩
  case round =>
    clear hrd2 hg2
    obtain ⟨k, s, hk, rfl, rfl, HL, hrd, hG⟩ := hrel
    have hs40 : s.size ≤ 40 := by have := HL.out; omega
    by_cases hpos : 0 < k
    · have z1 : (0 : Int) < (k : Int) := by omega
      go_wp2_with fail
      refine (pick_pos _ _ a n cap _ 300 (by omega) hrd (by omega) (by omega)).mono ?_
      rintro e w3 ⟨r3, hr3, rfl, hrd3, hg3⟩
      have hG3 := grownBy_trans hG hg3
      clear hrd hG hg3
      go_wp2_with fail
      refine (specPut_any _ _ (by omega)).mono ?_
      rintro e w4 ⟨rfl, b4⟩
      have hrd4 := hrd3.later b4
      have hG4 := grown_later hG3 b4
      have T1 := putB_nine (d := (r3 : Int)) (by omega)
      clear hrd3 hG3 b4
      go_wp2_with fail
      refine (specPut_any _ _ (by omega)).mono ?_
      rintro e w5 ⟨rfl, b5⟩
      have hrd5 := hrd4.later b5
      have hG5 := grown_later hG4 b5
      have T2 := putB_nine (d := 9223372036854775807) (by omega)
      clear hrd4 hG4 b5
      go_wp2_with fail
      refine (pick_pos _ _ a n cap _ 6 (by omega) (rd_alloc hrd5 _) (by omega) (by omega)).mono ?_
      rintro e w6 ⟨r, hr, rfl, hrd6, hg6⟩
      have hrow := laid_row hg6 hrd5.lt
      have hG6 := grownBy_trans (grownBy_trans hG5 (World.grownBy_alloc w5 _ _)) hg6
      clear hrd5 hG5 hg6
      obtain ⟨hs7, hhs⟩ : ∃ hs, w5.heap.size = hs := ⟨_, rfl⟩
      rw [hhs] at hrow
      rw [hhs]
      have kc := fun j => cell_of_row w6 hs7 j _ _ _ hrow
      obtain ⟨t, ht, q1⟩ : ∃ t : ByteArray, t.size ≤ 10 ∧ w6.cell? ⟨hs7, r, none⟩ = some (.string t) := by
        rw [kc]
        have : r = 0 ∨ r = 1 ∨ r = 2 ∨ r = 3 ∨ r = 4 ∨ r = 5 := by omega
        rcases this with rfl | rfl | rfl | rfl | rfl | rfl
        · exact ⟨putB r3, by omega, rfl⟩
        · exact ⟨_, by decide, rfl⟩
        · exact ⟨_, by decide, rfl⟩
        · exact ⟨_, by decide, rfl⟩
        · exact ⟨putB 9223372036854775807, by omega, rfl⟩
        · exact ⟨_, by decide, rfl⟩
      clear kc hrow hhs T1 T2
      have z2 : (r : Int) < 6 := by omega
      have z3 : (0 : Int) ≤ (r : Int) := by omega
      have HL2 := Lib.hid (show (s ++ t).size ≤ 10 * (4 - (k - 1)) by rw [ByteArray.size_append]; have := HL.out; omega)
      go_wp2
      go_roundw
      case rel => exact ⟨k - 1, s ++ t, by omega, by go_num, rfl, HL2, hrd6.more (by omega), hG6⟩
      case measure => simp [intOf]; omega
    · obtain rfl : k = 0 := by omega
      go_wp2_with fail
      refine (pick_pos _ _ a n cap _ ((s.size : Int) + 2) (by omega) hrd (by omega) (by omega)).mono ?_
      rintro e w3 ⟨r3, hr3, rfl, hrd3, hg3⟩
      have hG3 := grownBy_trans hG hg3
      clear hrd hG hg3
      go_wp2_with fail
      refine (pick_pos _ _ a n cap _ 6 (by omega) hrd3 (by omega) (by omega)).mono ?_
      rintro e w4 ⟨r4, hr4, rfl, hrd4, hg4⟩
      have hG4 := grownBy_trans hG3 hg4
      have hB : Below w.heap.size w w4 := below_rdD HB.out HS.out (by rw [HGG.out]; exact hG4)
      clear hrd3 hG3 hg4 hrd4 hG4
      obtain ⟨q, hq⟩ : ∃ q : Int, (r4 : Int).tdiv 5 = q := ⟨_, rfl⟩
      have hq2 : q = (r4 : Int) / 5 := by rw [← hq, Int.tdiv_eq_ediv_of_nonneg (by omega)]
      have q0 : 0 ≤ q := by omega
      have q9 : q ≤ 1 := by omega
      clear hq2
      go_wp2
      go_ret2
      exact ⟨s, (r3 : Int) - q, rfl, hs40, by omega, hB⟩

end Go.Proofs.Ytapombdkkcjodaa
