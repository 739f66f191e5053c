/-
  The contracts of the program's functions of fingerprints: printStep, PrintOf, PrintPower, rolledPrint, isPrint, isByte, RollPrint, JoinPrint. Condition: texts have at most 2^22 bytes.
-/
import Derived.Test.YtclblnkeakkdeaaPrint
namespace Go.Proofs.Ytclblnkeakkdeaa
open Go.RowKit

theorem implPrintStep_int (n c z : Int) (w : World) (hn : 0 ≤ n) (hn9 : n < 4000000) (hc : 0 ≤ c) (hc9 : c ≤ 255) (hz : (n * 257 + c + 1).tmod 1000003 = z) :
    Calls Try.prog 116 #[.int .i64 n, .int .i64 c] w fun e w' => e = .returned (.int .i64 z) ∧ w = w' := by
  go_enter Try.func116, Try.ntmps116
  go_wp2
  go_ret
  exact ⟨rfl, rfl⟩

set_option maxHeartbeats 1000000 in
theorem implPrintOf_any (s : ByteArray) (w : World) (hs : s.size ≤ 4194305) :
    Calls Try.prog 88 #[.string s] w fun e w' => e = .returned (.int .i64 (prN s.data.toList)) ∧ w = w' := by
  go_enter Try.func88, Try.ntmps88
  go_wp2
  go_loop [3, 4] (fun n i => ∃ k x : Nat, k ≤ s.size ∧ i = .int .i64 k ∧ n = .int .i64 x ∧ x < 1000003 ∧ Hid (x = prN (s.data.toList.take k))) (fun _ i => s.size - (intOf i).toNat)
  case atStart => exact ⟨0, 0, Nat.zero_le _, rfl, rfl, by omega, Lib.hid rfl⟩
  case round =>
    obtain ⟨k, x, hk, rfl, rfl, hx, HX⟩ := hrel
    by_cases hlt : k < s.size
    · have hb : (s[k].toNat : Int) ≤ 255 := by have := s[k].toNat_lt; omega
      have hy := prF_take s k hlt
      rw [← HX.out] at hy
      have hy9 := prStep_lt x s[k]
      have et : ((x : Int) * 257 + (s[k].toNat : Int) + 1).tmod 1000003 = (prStep x s[k] : Int) := tmod_nat _ (x * 257 + s[k].toNat + 1) (by omega)
      obtain ⟨y, hyy⟩ : ∃ y, prStep x s[k] = y := ⟨_, rfl⟩
      rw [hyy] at hy hy9 et
      have HY := Lib.hid hy
      have ET := Lib.hid et
      clear hy hyy HX et
      go_wp2_with fail
      refine (implPrintStep_int _ _ (y : Int) _ (by omega) (by omega) (by omega) hb ET.out).mono ?_
      rintro e w2 ⟨rfl, rfl⟩
      go_wp2
      go_round
      case rel => exact ⟨k + 1, y, by omega, by go_num, by go_num, hy9, Lib.hid HY.out.symm⟩
      case measure => simp [intOf]; omega
    · have hkk : k = s.size := by omega
      have hE : s.data.toList.take k = s.data.toList := by rw [hkk]; exact List.take_of_length_le (Nat.le_refl _)
      have h1 := HX.out
      rw [hE] at h1
      clear hE
      go_wp2
      go_ret
      exact ⟨rfl, rfl⟩

theorem implPrintOf_is (s : ByteArray) (x : Nat) (w : World) (hs : s.size ≤ 4194305) (hx : prN s.data.toList = x) :
    Calls Try.prog 88 #[.string s] w fun e w' => e = .returned (.int .i64 x) ∧ w = w' := by
  subst hx; exact implPrintOf_any s w hs

set_option maxHeartbeats 1000000 in
theorem implPrintPower_any (n : Int) (w : World) (h1 : -9223372036854775808 ≤ n) (h2 : n ≤ 9223372036854775807) :
    Calls Try.prog 87 #[.int .i64 n] w fun e w' => e = .returned (.int .i64 (pwZ n)) ∧ w = w' := by
  by_cases hn : n < 0
  · have e : pwZ n = 0 := by unfold pwZ; rw [if_pos hn]
    rw [e]
    clear e
    go_enter Try.func87, Try.ntmps87
    go_wp2
    go_ret
    exact ⟨rfl, rfl⟩
  · obtain ⟨m, rfl⟩ : ∃ m : Nat, n = m := ⟨n.toNat, by omega⟩
    have e : pwZ (m : Int) = (pwN m : Nat) := by unfold pwZ; rw [if_neg hn, Int.toNat_natCast]
    obtain ⟨z, hz⟩ : ∃ z, pwZ (m : Int) = z := ⟨_, rfl⟩
    rw [hz] at e ⊢
    have HE := Lib.hid e
    have hs : Eqm (1 * 257 ^ m) (257 ^ m) := by rw [Nat.one_mul]; exact Eqm.refl _
    have HS := Lib.hid hs
    clear e hz hs
    go_enter Try.func87, Try.ntmps87
    go_wp2
    go_loop [3, 4, 5] (fun out base left => ∃ k o b : Nat, k ≤ m ∧ left = .int .i64 k ∧ out = .int .i64 o ∧ base = .int .i64 b ∧ o < 1000003 ∧ b < 1000003 ∧ Hid (Eqm (o * b ^ k) (257 ^ m))) (fun _ _ left => (intOf left).toNat)
    case atStart => exact ⟨m, 1, 257, Nat.le_refl _, rfl, rfl, rfl, by omega, by omega, HS⟩
    case round =>
      obtain ⟨k, o, b, hk, rfl, rfl, rfl, ho, hb, HR⟩ := hrel
      by_cases h0 : 0 < k
      · have hbb : b * b ≤ 1000002 * 1000002 := Nat.mul_le_mul (by omega) (by omega)
        have hob : o * b ≤ 1000002 * 1000002 := Nat.mul_le_mul (by omega) (by omega)
        have et1 : ((b : Int) * (b : Int)).tmod 1000003 = ((b * b % 1000003 : Nat) : Int) := tmod_nat _ (b * b) (by simp)
        have et2 : ((o : Int) * (b : Int)).tmod 1000003 = ((o * b % 1000003 : Nat) : Int) := tmod_nat _ (o * b) (by simp)
        have ht : (k : Int).tdiv 2 = ((k / 2 : Nat) : Int) := (Int.ofNat_tdiv k 2).symm
        have hm : (k : Int).tmod 2 = ((k % 2 : Nat) : Int) := (Int.ofNat_tmod k 2).symm
        have w1 : IntKind.i64.wrap ((b : Int) * (b : Int)) = (b : Int) * (b : Int) := IntWalk.i64_in _ (by
          have : ((b * b : Nat) : Int) ≤ 1000002 * 1000002 := by omega
          rw [Int.natCast_mul] at this
          have h3 : 0 ≤ (b : Int) * (b : Int) := Int.mul_nonneg (by omega) (by omega)
          omega)
        have w2 : IntKind.i64.wrap ((o : Int) * (b : Int)) = (o : Int) * (b : Int) := IntWalk.i64_in _ (by
          have : ((o * b : Nat) : Int) ≤ 1000002 * 1000002 := by omega
          rw [Int.natCast_mul] at this
          have h3 : 0 ≤ (o : Int) * (b : Int) := Int.mul_nonneg (by omega) (by omega)
          omega)
        have l1 : b * b % 1000003 < 1000003 := Nat.mod_lt _ (by decide)
        have l2 : o * b % 1000003 < 1000003 := Nat.mod_lt _ (by decide)
        have se := sq_even o b k
        have so := sq_odd o b k
        obtain ⟨q, hq⟩ : ∃ q, b * b % 1000003 = q := ⟨_, rfl⟩
        obtain ⟨p, hp⟩ : ∃ p, o * b % 1000003 = p := ⟨_, rfl⟩
        rw [hq] at et1 l1 se so
        rw [hp] at et2 l2 so
        obtain ⟨d, hd⟩ : ∃ d, k / 2 = d := ⟨_, rfl⟩
        rw [hd] at ht se so
        have hdk : d < k := by omega
        by_cases hodd : k % 2 = 1
        · rw [hodd] at hm
          have HN := Lib.hid ((so hodd).trans HR.out)
          clear se so hq hp hd hbb hob
          go_wp2
          go_round
          case rel => exact ⟨d, p, q, by omega, by go_num, by go_num, by go_num, l2, l1, HN⟩
          case measure => simp [intOf]; omega
        · have hev : k % 2 = 0 := by omega
          rw [hev] at hm
          have HN := Lib.hid ((se hev).trans HR.out)
          clear se so hq hp hd hbb hob
          go_wp2
          go_round
          case rel => exact ⟨d, o, q, by omega, by go_num, by go_num, by go_num, ho, l1, HN⟩
          case measure => simp [intOf]; omega
      · obtain rfl : k = 0 := by omega
        have h3 := HR.out
        rw [Nat.pow_zero, Nat.mul_one] at h3
        have h4 : o = pwN m := Eqm.eq (h3.trans (pwN_eqm m).symm) ho (pwN_lt m)
        have h5 := HE.out
        clear h3
        go_wp2
        go_ret
        exact ⟨ret_i64 (by omega), rfl⟩

set_option maxHeartbeats 1000000 in
theorem implRolled_int (n p g c r z : Int) (w : World) (hn : 0 ≤ n) (hn9 : n < 1000003) (hp0 : 0 ≤ p) (hp9 : p < 1000003) (hg : 0 ≤ g) (hg9 : g ≤ 255) (hc : 0 ≤ c) (hc9 : c ≤ 255)
    (t1 : ((g + 1) * p).tmod 1000003 = r) (hr : 0 ≤ r) (hr9 : r < 1000003) (t3 : ((n + 1000003 - r) * 257 + c + 1).tmod 1000003 = z) :
    Calls Try.prog 89 #[.int .i64 n, .int .i64 p, .int .i64 g, .int .i64 c] w fun e w' => e = .returned (.int .i64 z) ∧ w = w' := by
  have w1 : IntKind.i64.wrap ((g + 1) * p) = (g + 1) * p := IntWalk.i64_in _ (by
    have h1 : 0 ≤ (g + 1) * p := Int.mul_nonneg (by omega) (by omega)
    have h2 : (g + 1) * p ≤ 256 * 1000002 := Int.mul_le_mul (by omega) (by omega) (by omega) (by omega)
    omega)
  have T3 := Lib.hid t3
  clear t3
  go_enter Try.func89, Try.ntmps89
  go_wp2_with fail
  refine (implPrintStep_int _ _ z _ (by omega) (by omega) hc hc9 T3.out).mono ?_
  rintro e w2 ⟨rfl, rfl⟩
  go_wp2
  go_ret
  exact ⟨rfl, rfl⟩

theorem roll_same (n r q c z : Nat) (hr : r < 1000003) (hq : q + r = n + 1000003) (hz : ((n + 1000003 * 256 - r) % 1000003 * 257 + c + 1) % 1000003 = z) : (q * 257 + c + 1) % 1000003 = z := by
  have hx : n + 1000003 * 256 - r = q + 1000003 * 255 := by omega
  have e1 : Eqm (n + 1000003 * 256 - r) q := hx ▸ Eqm.whole q 255
  have e2 : Eqm (q * 257 + c + 1) ((n + 1000003 * 256 - r) % 1000003 * 257 + c + 1) := ((((Eqm.rest _).trans e1).symm.mul (Eqm.refl 257)).add (Eqm.refl c)).add (Eqm.refl 1)
  exact Eq.trans e2 hz

/-- With the power of one byte less than the piece has. -/
theorem implRolled_ok (n k g c z : Nat) (p : Int) (w : World) (hp : p = (pwN (k - 1) : Nat)) (hn : n < 1000003) (hg : g ≤ 255) (hc : c ≤ 255) (hz : rollN n k g c = z) :
    Calls Try.prog 89 #[.int .i64 n, .int .i64 p, .int .i64 g, .int .i64 c] w fun e w' => e = .returned (.int .i64 z) ∧ w = w' := by
  subst hp
  have hp9 := pwN_lt (k - 1)
  unfold rollN at hz
  have hr9 : (g + 1) * pwN (k - 1) % 1000003 < 1000003 := Nat.mod_lt _ (by decide)
  obtain ⟨r, hr⟩ : ∃ r, (g + 1) * pwN (k - 1) % 1000003 = r := ⟨_, rfl⟩
  have t1 : (((g : Int) + 1) * ((pwN (k - 1) : Nat) : Int)).tmod 1000003 = ((r : Nat) : Int) := by rw [← hr]; exact tmod_nat _ _ (by simp)
  rw [hr] at hz hr9
  obtain ⟨q, hq⟩ : ∃ q, q + r = n + 1000003 := ⟨n + 1000003 - r, by omega⟩
  have e2 : (q * 257 + c + 1) % 1000003 = z := roll_same n r q c z hr9 hq hz
  clear hz hr
  have e3 : (n : Int) + 1000003 - (r : Int) = (q : Int) := by omega
  have t3 : (((n : Int) + 1000003 - (r : Int)) * 257 + (c : Int) + 1).tmod 1000003 = (z : Int) := by rw [e3, tmod_nat _ (q * 257 + c + 1) (by omega), e2]
  exact implRolled_int n _ g c r z w (by omega) (by omega) (by omega) (by omega) (by omega) (by omega) (by omega) (by omega) t1 (by omega) (by omega) t3

theorem implIsPrint_is (b : Bool) (n : Int) (w : World) (h : decide (0 ≤ n ∧ n < 1000003) = b) :
    Calls Try.prog 102 #[.int .i64 n] w fun e w' => e = .returned (.bool b) ∧ w = w' := by
  by_cases h0 : 0 ≤ n
  · by_cases h1 : n < 1000003
    · obtain rfl : true = b := by rw [← h]; simp [h0, h1]
      clear h
      go_enter Try.func102, Try.ntmps102
      go_wp2
      go_ret
      exact ⟨rfl, rfl⟩
    · obtain rfl : false = b := by rw [← h]; simp [h0, h1]
      clear h
      go_enter Try.func102, Try.ntmps102
      go_wp2
      go_ret
      exact ⟨rfl, rfl⟩
  · obtain rfl : false = b := by rw [← h]; simp [h0]
    clear h
    go_enter Try.func102, Try.ntmps102
    go_wp2
    go_ret
    exact ⟨rfl, rfl⟩


end Go.Proofs.Ytclblnkeakkdeaa
