/-
  The contracts of the functions TakeNumber, the model's and the program's. Condition: texts have at most 2^22 bytes.
-/
import Derived.Test.YtapombdkkcjodaaSixA
namespace Go.Proofs.Ytapombdkkcjodaa
open Go.RowKit

theorem ret_take {a b c d : Int} {e f : Bool} (h : (a, b, e) = (c, d, f)) : Ending.returned (.tuple #[.int .i64 a, .int .i64 b, .bool e]) = .returned (.tuple #[.int .i64 c, .int .i64 d, .bool f]) := by
  simp only [Prod.mk.injEq] at h
  obtain ⟨rfl, rfl, rfl⟩ := h
  rfl
/-- What stands at a place that was read up to it: all bytes ahead of it are great. -/
def greatTo (s : ByteArray) (p j : Nat) : Prop := ∀ i, i < j → 128 ≤ (bytesN s).getD (p + i) 0
theorem great_zero (s : ByteArray) (p : Nat) : greatTo s p 0 := fun i h => absurd h (by omega)
theorem great_next {s : ByteArray} {p j q : Nat} (h : greatTo s p j) (hq : q = p + j) (hs : q < s.size) (hb : 128 ≤ s[q].toNat) : greatTo s p (j + 1) := fun i hi => by
  by_cases e : i = j
  · subst e; subst hq; rw [bytesN_get s _ hs]; exact hb
  · exact h i (by omega)
/-- What is read so far. -/
def readN (s : ByteArray) (p j : Nat) : Int := (valN ((bytesN s).drop p) j : Nat)
theorem readN_zero (s : ByteArray) (p : Nat) : readN s p 0 = 0 := rfl
def powN (j : Nat) : Int := (128 ^ j : Nat)
theorem powN_two (j : Nat) : (2 : Int) ^ (7 * j) = powN j := by
  rw [powN, Int.natCast_pow, Int.pow_mul]; rfl
theorem powN_le {j : Nat} (h : j ≤ 8) : 1 ≤ powN j ∧ powN j ≤ 72057594037927936 := by
  have h1 : (128 : Nat) ^ j ≤ 128 ^ 8 := Nat.pow_le_pow_right (by decide) h
  have h2 : 0 < (128 : Nat) ^ j := Nat.pow_pos (by decide)
  unfold powN
  simp only [show (128 : Nat) ^ 8 = 72057594037927936 from by decide] at h1
  omega
theorem powN_succ (j : Nat) : powN (j + 1) = powN j * 128 := by
  simp only [powN, Nat.pow_succ]; omega
theorem readN_lt (s : ByteArray) (p j : Nat) : 0 ≤ readN s p j ∧ readN s p j < powN j := by
  have h := valN_lt ((bytesN s).drop p) j
  unfold readN powN
  omega
theorem readN_next {s : ByteArray} {p j q : Nat} {r : Int} (hq : q = p + j) (hs : q < s.size) (hr : (s[q].toNat : Int).tmod 128 = r) : readN s p (j + 1) = readN s p j + r * powN j := by
  subst hq hr
  rw [readN, valN_next, bytesN_get s _ hs, readN, powN]
  have e : ((s[p + j].toNat : Nat) : Int).tmod 128 = ((s[p + j].toNat % 128 : Nat) : Int) := (Int.ofNat_tmod _ 128).symm
  rw [e]
  simp
theorem take_past {s : ByteArray} {p j q : Nat} (hq : q = p + j) (h : j = 0 ∨ q ≤ s.size) (h9 : j ≤ 9) (hg : greatTo s p j) (he : j = 9 ∨ s.size ≤ q) : takeT s p = (0, 0, false) := by
  apply takeT_none
  by_cases hp : s.size ≤ p
  · exact at1_past (by rw [bytesN_len]; exact hp)
  · refine at1_out (i := j) h9 (by rw [bytesN_len]; omega) hg ?_
    rw [bytesN_len]; omega
theorem take_zero {s : ByteArray} {p j q : Nat} (hq : q = p + j) (hs : q < s.size) (h9 : j < 9) (hg : greatTo s p j) (h0 : 0 < j) (hz : s[q].toNat = 0) : takeT s p = (0, 0, false) := by
  apply takeT_none
  subst hq
  exact at1_zero h9 (by rw [bytesN_len]; omega) hg h0 (by rw [bytesN_get s _ hs]; exact hz)
theorem take_end {s : ByteArray} {p j q : Nat} (hq : q = p + j) (hs : q < s.size) (h9 : j < 9) (hg : greatTo s p j) (hl : s[q].toNat < 128) (hz : s[q].toNat = 0 → j = 0) : takeT s p = (readN s p (j + 1), ((q + 1 : Nat) : Int), true) := by
  subst hq
  exact takeT_some (at1_end h9 (by rw [bytesN_len]; omega) hg (by rw [bytesN_get s _ hs]; exact hl) (by rw [bytesN_get s _ hs]; exact hz))
theorem part_bound {y r t : Int} (hy : 0 ≤ y) (hr0 : 0 ≤ r) (hr : r ≤ 127) (ht : r * y = t) : 0 ≤ t ∧ t ≤ 127 * y := by
  subst ht
  exact ⟨Int.mul_nonneg hr0 hy, Int.mul_le_mul_of_nonneg_right hr hy⟩

set_option maxRecDepth 4000 in
set_option maxHeartbeats 4000000 in
theorem specTake_any (s : ByteArray) (i : Int) (x0 y0 : Int) (b0 : Bool) (w : World) (h : takeT s i = (x0, y0, b0)) (hs : s.size ≤ 4194304) :
    Calls Try.prog 16 #[.string s, .int .i64 i] w fun e w' => e = .returned (.tuple #[.int .i64 x0, .int .i64 y0, .bool b0]) ∧ Below w.heap.size w w' := by
  have HH := Lib.hid h
  clear h
  by_cases hi : i < 0
  · have HE := Lib.hid (takeT_neg (s := s) hi)
    go_enter Try.func16, Try.ntmps16
    go_wp2
    go_ret3
    exact ⟨ret_take (HE.out.symm.trans HH.out), Below.refl _ _⟩
  · obtain ⟨p, HP⟩ : ∃ p : Nat, Hid (i = p) := ⟨i.toNat, Lib.hid (by omega)⟩
    go_enter Try.func16, Try.ntmps16
    go_wp2
    go_loopw [7, 8, 9] (fun vx vy vq wr => ∃ (j : Nat) (x y q : Int), vx = .int .i64 x ∧ vy = .int .i64 y ∧ vq = .int .i64 q ∧ j ≤ 9 ∧ Hid (q = i + j) ∧ Hid (j = 0 ∨ q ≤ s.size) ∧ Hid (x = readN s p j) ∧ Hid (j < 9 → y = powN j) ∧ Hid (greatTo s p j) ∧ Below w.heap.size w wr) (fun _ _ q _ => s.size - (intOf q).toNat)
    case atStart => exact ⟨0, 0, 1, i, rfl, rfl, rfl, by omega, Lib.hid (by omega), Lib.hid (.inl rfl), Lib.hid rfl, Lib.hid (fun _ => rfl), Lib.hid (great_zero s p), Below.refl _ _⟩
    case round =>
      obtain ⟨j, x, y, q, rfl, rfl, rfl, hj9, HQ, HS, HX, HY, HG, B⟩ := hrel
      by_cases hlt : q < (s.size : Int)
      · have hq0 : 0 ≤ q := by have := HQ.out; omega
        obtain ⟨k, rfl⟩ : ∃ k : Nat, q = k := ⟨q.toNat, by omega⟩
        have hk : k < s.size := by omega
        have HK := Lib.hid (show k = p + j by have h1 := HQ.out; have h2 := HP.out; omega)
        by_cases h9 : j < 9
        · have t9 : (k : Int) < i + 9 := by have := HQ.out; omega
          have hi9 : i ≤ 4194304 := by have := HQ.out; omega
          have hy := HY.out h9
          obtain ⟨y1, y9⟩ := powN_le (j := j) (by omega)
          rw [← hy] at y1 y9
          obtain ⟨x1, x9⟩ := readN_lt s p j
          rw [← HX.out, ← hy] at x9
          rw [← HX.out] at x1
          have hb : (s[k].toNat : Int) ≤ 255 := by have := s[k].toNat_lt; omega
          obtain ⟨r, hr⟩ : ∃ r : Int, (s[k].toNat : Int).tmod 128 = r := ⟨_, rfl⟩
          have hr2 : r = ((s[k].toNat % 128 : Nat) : Int) := by rw [← hr]; exact (Int.ofNat_tmod _ 128).symm
          have hr0 : 0 ≤ r := by omega
          have hr9 : r ≤ 127 := by omega
          obtain ⟨t, ht⟩ : ∃ t : Int, r * y = t := ⟨_, rfl⟩
          obtain ⟨t0, t127⟩ := part_bound (by omega) hr0 hr9 ht
          have HX2 := Lib.hid (show readN s p (j + 1) = x + t by rw [readN_next HK.out hk hr, ← ht, hy, HX.out])
          obtain ⟨z, hz⟩ : ∃ z : Int, IntKind.i64.wrap (y * 128) = z := ⟨_, rfl⟩
          have HY2 := Lib.hid (show j + 1 < 9 → z = powN (j + 1) from fun h8 => by
            have h7 := powN_le (j := j + 1) (by omega)
            rw [powN_succ, ← hy] at h7
            rw [← hz, IntWalk.i64_in _ (by omega), powN_succ, hy])
          have hkj : i < (k : Int) ↔ 0 < j := by have := HQ.out; omega
          have q1 : x + t ≤ 9223372036854775807 := by omega
          have q2 : t ≤ 9223372036854775807 := by omega
          clear hr2 hy t127 x9 y9
          by_cases hs1 : s[k].toNat < 128
          · by_cases hz0 : s[k].toNat = 0 ∧ 0 < j
            · have HE := Lib.hid (take_zero HK.out hk h9 HG.out hz0.2 hz0.1)
              have tz : ((s[k].toNat : Int) == 0) = true := by simp; exact hz0.1
              have tk : decide (i < (k : Int)) = true := decide_eq_true (hkj.2 hz0.2)
              clear hkj hz0 HY2
              go_wp2
              go_ret3
              exact ⟨ret_take (HE.out.symm.trans (HP.out ▸ HH.out)), B⟩
            · have HE := Lib.hid (take_end HK.out hk h9 HG.out hs1 (fun e => by omega))
              clear HY2
              by_cases hz1 : s[k].toNat = 0
              · have tz : ((s[k].toNat : Int) == 0) = true := by simp; exact hz1
                have tk : decide (i < (k : Int)) = false := decide_eq_false (fun e => hz0 ⟨hz1, hkj.1 e⟩)
                clear hkj hz0 hz1
                go_wp2
                go_ret3
                exact ⟨ret_take (by rw [← HX2.out, ← HH.out, HP.out, HE.out]; rfl), B⟩
              · have tz : ((s[k].toNat : Int) == 0) = false := by simp; exact hz1
                clear hkj hz0 hz1
                go_wp2
                go_ret3
                exact ⟨ret_take (by rw [← HX2.out, ← HH.out, HP.out, HE.out]; rfl), B⟩
          · have HG2 := Lib.hid (great_next HG.out HK.out hk (by omega))
            go_wp2
            go_roundw
            case rel => exact ⟨j + 1, x + t, z, (k : Int) + 1, by go_num, by go_num, by go_num, by omega, Lib.hid (by have := HQ.out; omega), Lib.hid (.inr (by omega)), Lib.hid HX2.out.symm, HY2, HG2, B⟩
            case measure => simp [intOf]; omega
        · have t9 : ¬ (k : Int) < i + 9 := by have := HQ.out; omega
          have hi9 : i ≤ 4194304 := by have := HQ.out; omega
          have HE := Lib.hid (take_past HK.out (.inr (by omega)) hj9 HG.out (.inl (by omega)))
          go_wp2
          go_ret3
          exact ⟨ret_take (HE.out.symm.trans (HP.out ▸ HH.out)), B⟩
      · have HE := Lib.hid (take_past (s := s) (p := p) (j := j) (q := q.toNat) (by have h1 := HQ.out; have h2 := HP.out; omega) (by have := HS.out; omega) hj9 HG.out (.inr (by omega)))
        go_wp2
        go_ret3
        exact ⟨ret_take (HE.out.symm.trans (HP.out ▸ HH.out)), B⟩

set_option maxRecDepth 4000 in
set_option maxHeartbeats 4000000 in
theorem implTake_any (s : ByteArray) (i : Int) (x0 y0 : Int) (b0 : Bool) (w : World) (h : takeT s i = (x0, y0, b0)) (hs : s.size ≤ 4194304) (hi9 : i ≤ 9223372036854775807) :
    Calls Try.prog 14 #[.string s, .int .i64 i] w fun e w' => e = .returned (.tuple #[.int .i64 x0, .int .i64 y0, .bool b0]) ∧ Below w.heap.size w w' := by
  have HH := Lib.hid h
  clear h
  by_cases hi : i < 0
  · have HE := Lib.hid (takeT_neg (s := s) hi)
    go_enter Try.func14, Try.ntmps14
    go_wp2
    go_ret3
    exact ⟨ret_take (HE.out.symm.trans HH.out), Below.refl _ _⟩
  · obtain ⟨p, HP⟩ : ∃ p : Nat, Hid (i = p) := ⟨i.toNat, Lib.hid (by omega)⟩
    go_enter Try.func14, Try.ntmps14
    go_wp2
    go_loopw [7, 8] (fun vx vj wr => ∃ (j : Nat) (x q : Int), vx = .int .i64 x ∧ vj = .int .i64 (j : Int) ∧ j ≤ 9 ∧ Hid (q = i + j) ∧ Hid (j = 0 ∨ q ≤ s.size) ∧ Hid (x = readN s p j) ∧ Hid (greatTo s p j) ∧ Below w.heap.size w wr) (fun _ vj _ => 9 - (intOf vj).toNat)
    case atStart => exact ⟨0, 0, i, rfl, rfl, by omega, Lib.hid (by omega), Lib.hid (.inl rfl), Lib.hid rfl, Lib.hid (great_zero s p), Below.refl _ _⟩
    case round =>
      obtain ⟨j, x, q, rfl, rfl, hj9, HQ, HS, HX, HG, B⟩ := hrel
      by_cases h9 : j < 9
      · by_cases hlt : (j : Int) < (s.size : Int) - i
        · have hq0 : 0 ≤ q := by have := HQ.out; omega
          obtain ⟨k, rfl⟩ : ∃ k : Nat, q = k := ⟨q.toNat, by omega⟩
          have hk : k < s.size := by have := HQ.out; omega
          have HK := Lib.hid (show k = p + j by have h1 := HQ.out; have h2 := HP.out; omega)
          have hi7 : i ≤ 4194304 := by have := HQ.out; omega
          have q5 : i + (j : Int) = (k : Int) := HQ.out.symm
          have q6 : (k : Int) < (s.size : Int) := by omega
          have q7 : (0 : Int) ≤ (k : Int) := by omega
          obtain ⟨y, hy⟩ : ∃ y, powN j = y := ⟨_, rfl⟩
          obtain ⟨y1, y9⟩ := powN_le (j := j) (by omega)
          rw [hy] at y1 y9
          obtain ⟨x1, x9⟩ := readN_lt s p j
          rw [← HX.out, hy] at x9
          rw [← HX.out] at x1
          have hb : (s[k].toNat : Int) ≤ 255 := by have := s[k].toNat_lt; omega
          obtain ⟨r, hr⟩ : ∃ r : Int, (s[k].toNat : Int).tmod 128 = r := ⟨_, rfl⟩
          have hr2 : r = ((s[k].toNat % 128 : Nat) : Int) := by rw [← hr]; exact (Int.ofNat_tmod _ 128).symm
          have hr0 : 0 ≤ r := by omega
          have hr9 : r ≤ 127 := by omega
          obtain ⟨t, ht⟩ : ∃ t : Int, r * y = t := ⟨_, rfl⟩
          obtain ⟨t0, t127⟩ := part_bound (by omega) hr0 hr9 ht
          have HX2 := Lib.hid (show readN s p (j + 1) = x + t by rw [readN_next HK.out hk hr, ← ht, ← hy, HX.out])
          have hpw : (7 * (j : Int)).toNat = 7 * j := by omega
          have hpx : r * 2 ^ (7 * j) = t := by rw [powN_two, hy, ht]
          have q1 : x + t ≤ 9223372036854775807 := by omega
          have q2 : t ≤ 9223372036854775807 := by omega
          clear hr2 hy t127 x9 y9 ht y1
          by_cases hz0 : s[k].toNat = 0
          · have tz : ((s[k].toNat : Int) == 0) = true := by simp; exact hz0
            by_cases hj0 : 0 < j
            · have HE := Lib.hid (take_zero HK.out hk h9 HG.out hj0 hz0)
              clear hz0
              go_wp2
              go_ret3
              exact ⟨ret_take (HE.out.symm.trans (HP.out ▸ HH.out)), B⟩
            · have HE := Lib.hid (take_end HK.out hk h9 HG.out (by omega) (fun e => by omega))
              have ts : (s[k].toNat : Int) < 128 := by omega
              clear hz0
              go_wp2
              go_ret3
              exact ⟨ret_take (by rw [← HX2.out, ← HH.out, HP.out, HE.out]; rfl), B⟩
          · have tz : ((s[k].toNat : Int) == 0) = false := by simp; exact hz0
            by_cases hs1 : s[k].toNat < 128
            · have HE := Lib.hid (take_end HK.out hk h9 HG.out hs1 (fun e => by omega))
              clear hz0
              go_wp2
              go_ret3
              exact ⟨ret_take (by rw [← HX2.out, ← HH.out, HP.out, HE.out]; rfl), B⟩
            · have HG2 := Lib.hid (great_next HG.out HK.out hk (by omega))
              clear hz0
              go_wp2
              go_roundw
              case rel => exact ⟨j + 1, x + t, (k : Int) + 1, by go_num, by go_num, by omega, Lib.hid (by have := HQ.out; omega), Lib.hid (.inr (by omega)), Lib.hid HX2.out.symm, HG2, B⟩
              case measure => simp [intOf]; omega
        · have HE := Lib.hid (take_past (s := s) (p := p) (j := j) (q := q.toNat) (by have h1 := HQ.out; have h2 := HP.out; omega) (by have := HS.out; omega) hj9 HG.out (.inr (by have := HQ.out; omega)))
          go_wp2
          go_ret3
          exact ⟨ret_take (HE.out.symm.trans (HP.out ▸ HH.out)), B⟩
      · have HE := Lib.hid (take_past (s := s) (p := p) (j := j) (q := q.toNat) (by have h1 := HQ.out; have h2 := HP.out; omega) (by have := HS.out; omega) hj9 HG.out (.inl (by omega)))
        go_wp2
        go_ret3
        exact ⟨ret_take (HE.out.symm.trans (HP.out ▸ HH.out)), B⟩

end Go.Proofs.Ytapombdkkcjodaa
