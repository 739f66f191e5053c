/-
  The contracts of the model's functions of fingerprints: PrintOf, PrintPower, RollPrint, JoinPrint. Condition: texts have at most 2^22 bytes.
-/
import Derived.Test.YtclblnkeakkdeaaProg
import Derived.Test.YtclblnkeakkdeaaMathPrint
import Derived.WalkKit
namespace Go.Proofs.Ytclblnkeakkdeaa
open Go.RowKit

theorem ret_i64 {a b : Int} (h : a = b) : Ending.returned (.int .i64 a) = .returned (.int .i64 b) := by rw [h]

theorem tmod_nat (z : Int) (a : Nat) (h : z = (a : Int)) : z.tmod 1000003 = ((a % 1000003 : Nat) : Int) := by
  subst h; exact (Int.ofNat_tmod a 1000003).symm

theorem prF_take (s : ByteArray) (k : Nat) (h : k < s.size) : prN (s.data.toList.take (k + 1)) = prStep (prN (s.data.toList.take k)) s[k] := by
  have hl : k < s.data.toList.length := h
  rw [List.take_succ_eq_append_getElem hl, prN_snoc]
  rfl

set_option maxHeartbeats 1000000 in
theorem specPrintOf_any (s : ByteArray) (w : World) (hs : s.size ≤ 4194304) :
    Calls Try.prog 72 #[.string s] w fun e w' => e = .returned (.int .i64 (prN s.data.toList)) ∧ w = w' := by
  go_enter Try.func72, Try.ntmps72
  go_wp2
  go_loop [3, 4] (fun n i => ∃ k x : Nat, k ≤ s.size ∧ i = .int .i64 k ∧ n = .int .i64 x ∧ x < 1000003 ∧ Hid (x = prN (s.data.toList.take k))) (fun _ i => s.size - (intOf i).toNat)
  case atStart => exact ⟨0, 0, Nat.zero_le _, rfl, rfl, by omega, Lib.hid rfl⟩
  case round =>
    obtain ⟨k, x, hk, rfl, rfl, hx, HX⟩ := hrel
    by_cases hlt : k < s.size
    · have hb : (s[k].toNat : Int) ≤ 255 := by have := s[k].toNat_lt; omega
      have hy := prF_take s k hlt
      rw [← HX.out] at hy
      have hy9 := prStep_lt x s[k]
      have et : ((x : Int) * 257 + (s[k].toNat : Int) + 1).tmod 1000003 = (prStep x s[k] : Int) := tmod_nat _ (x * 257 + s[k].toNat + 1) (by omega)
      obtain ⟨y, hyy⟩ : ∃ y, prStep x s[k] = y := ⟨_, rfl⟩
      rw [hyy] at hy hy9 et
      have HY := Lib.hid hy
      clear hy hyy HX
      go_wp2
      go_round
      case rel => exact ⟨k + 1, y, by omega, by go_num, by go_num, hy9, Lib.hid HY.out.symm⟩
      case measure => simp [intOf]; omega
    · obtain rfl : k = s.size := by omega
      have hE : s.data.toList.take s.size = s.data.toList := List.take_of_length_le (Nat.le_refl _)
      have h1 := HX.out
      rw [hE] at h1
      go_wp2
      go_ret
      exact ⟨rfl, rfl⟩

/-- What is out and what is left, in the way by squares. -/
def pwZ (n : Int) : Int := if n < 0 then 0 else (pwN n.toNat : Nat)
theorem pwZ_lt (n : Int) : 0 ≤ pwZ n ∧ pwZ n < 1000003 := by
  unfold pwZ
  split
  · omega
  · have := pwN_lt n.toNat; omega

set_option maxHeartbeats 1000000 in
theorem specPrintPower_any (n : Int) (w : World) (h1 : -9223372036854775808 ≤ n) (h2 : n ≤ 9223372036854775807) :
    Calls Try.prog 126 #[.int .i64 n] w fun e w' => e = .returned (.int .i64 (pwZ n)) ∧ w = w' := by
  by_cases hn : n < 0
  · have e : pwZ n = 0 := by unfold pwZ; rw [if_pos hn]
    rw [e]
    clear e
    go_enter Try.func126, Try.ntmps126
    go_wp2
    go_ret
    exact ⟨rfl, rfl⟩
  · obtain ⟨m, rfl⟩ : ∃ m : Nat, n = m := ⟨n.toNat, by omega⟩
    have e : pwZ (m : Int) = (pwN m : Nat) := by unfold pwZ; rw [if_neg hn, Int.toNat_natCast]
    obtain ⟨z, hz⟩ : ∃ z, pwZ (m : Int) = z := ⟨_, rfl⟩
    rw [hz] at e ⊢
    have HE := Lib.hid e
    have hs : Eqm (1 * 257 ^ m) (257 ^ m) := by rw [Nat.one_mul]; exact Eqm.refl _
    have HS := Lib.hid hs
    clear e hz hs
    go_enter Try.func126, Try.ntmps126
    go_wp2
    go_loop [0, 3, 4] (fun left out base => ∃ k o b : Nat, k ≤ m ∧ left = .int .i64 k ∧ out = .int .i64 o ∧ base = .int .i64 b ∧ o < 1000003 ∧ b < 1000003 ∧ Hid (Eqm (o * b ^ k) (257 ^ m))) (fun left _ _ => (intOf left).toNat)
    case atStart => exact ⟨m, 1, 257, Nat.le_refl _, rfl, rfl, rfl, by omega, by omega, HS⟩
    case round =>
      obtain ⟨k, o, b, hk, rfl, rfl, rfl, ho, hb, HR⟩ := hrel
      by_cases h0 : 0 < k
      · have hbb : b * b ≤ 1000002 * 1000002 := Nat.mul_le_mul (by omega) (by omega)
        have hob : o * b ≤ 1000002 * 1000002 := Nat.mul_le_mul (by omega) (by omega)
        have et1 : ((b : Int) * (b : Int)).tmod 1000003 = ((b * b % 1000003 : Nat) : Int) := tmod_nat _ (b * b) (by simp)
        have et2 : ((o : Int) * (b : Int)).tmod 1000003 = ((o * b % 1000003 : Nat) : Int) := tmod_nat _ (o * b) (by simp)
        have ht : (k : Int).tdiv 2 = ((k / 2 : Nat) : Int) := (Int.ofNat_tdiv k 2).symm
        have hm : (k : Int).tmod 2 = ((k % 2 : Nat) : Int) := (Int.ofNat_tmod k 2).symm
        have w1 : IntKind.i64.wrap ((b : Int) * (b : Int)) = (b : Int) * (b : Int) := IntWalk.i64_in _ (by
          have : ((b * b : Nat) : Int) ≤ 1000002 * 1000002 := by omega
          rw [Int.natCast_mul] at this
          have h3 : 0 ≤ (b : Int) * (b : Int) := Int.mul_nonneg (by omega) (by omega)
          omega)
        have w2 : IntKind.i64.wrap ((o : Int) * (b : Int)) = (o : Int) * (b : Int) := IntWalk.i64_in _ (by
          have : ((o * b : Nat) : Int) ≤ 1000002 * 1000002 := by omega
          rw [Int.natCast_mul] at this
          have h3 : 0 ≤ (o : Int) * (b : Int) := Int.mul_nonneg (by omega) (by omega)
          omega)
        have l1 : b * b % 1000003 < 1000003 := Nat.mod_lt _ (by decide)
        have l2 : o * b % 1000003 < 1000003 := Nat.mod_lt _ (by decide)
        have se := sq_even o b k
        have so := sq_odd o b k
        obtain ⟨q, hq⟩ : ∃ q, b * b % 1000003 = q := ⟨_, rfl⟩
        obtain ⟨p, hp⟩ : ∃ p, o * b % 1000003 = p := ⟨_, rfl⟩
        rw [hq] at et1 l1 se so
        rw [hp] at et2 l2 so
        obtain ⟨d, hd⟩ : ∃ d, k / 2 = d := ⟨_, rfl⟩
        rw [hd] at ht se so
        have hdk : d < k := by omega
        by_cases hodd : k % 2 = 1
        · rw [hodd] at hm
          have HN := Lib.hid ((so hodd).trans HR.out)
          clear se so hq hp hd hbb hob
          go_wp2
          go_round
          case rel => exact ⟨d, p, q, by omega, by go_num, by go_num, by go_num, l2, l1, HN⟩
          case measure => simp [intOf]; omega
        · have hev : k % 2 = 0 := by omega
          rw [hev] at hm
          have HN := Lib.hid ((se hev).trans HR.out)
          clear se so hq hp hd hbb hob
          go_wp2
          go_round
          case rel => exact ⟨d, o, q, by omega, by go_num, by go_num, by go_num, ho, l1, HN⟩
          case measure => simp [intOf]; omega
      · obtain rfl : k = 0 := by omega
        have h3 := HR.out
        rw [Nat.pow_zero, Nat.mul_one] at h3
        have h4 : o = pwN m := Eqm.eq (h3.trans (pwN_eqm m).symm) ho (pwN_lt m)
        have h5 := HE.out
        clear h3
        go_wp2
        go_ret
        exact ⟨ret_i64 (by omega), rfl⟩

/-- The fingerprint of a piece that is rolled on, of joined texts. -/
def rollN (n k g c : Nat) : Nat := ((n + 1000003 * 256 - (g + 1) * pwN (k - 1) % 1000003) % 1000003 * 257 + c + 1) % 1000003
def joinN (a b k : Nat) : Nat := (a * pwN k + b) % 1000003

set_option maxHeartbeats 1000000 in
theorem specRollPrint_bad (n k g c : Int) (w : World) (h : n < 0 ∨ 1000003 ≤ n ∨ k < 1 ∨ g < 0 ∨ 255 < g ∨ c < 0 ∨ 255 < c) :
    Calls Try.prog 121 #[.int .i64 n, .int .i64 k, .int .i64 g, .int .i64 c] w fun e w' => e = .returned (.int .i64 (-1)) ∧ w = w' := by
  by_cases hc0 : n < 0
  · clear h
    go_enter Try.func121, Try.ntmps121
    go_wp2
    go_ret
    exact ⟨rfl, rfl⟩
  by_cases hc1 : 1000003 ≤ n
  · clear h
    go_enter Try.func121, Try.ntmps121
    go_wp2
    go_ret
    exact ⟨rfl, rfl⟩
  by_cases hc2 : k < 1
  · clear h
    go_enter Try.func121, Try.ntmps121
    go_wp2
    go_ret
    exact ⟨rfl, rfl⟩
  by_cases hc3 : g < 0
  · clear h
    go_enter Try.func121, Try.ntmps121
    go_wp2
    go_ret
    exact ⟨rfl, rfl⟩
  by_cases hc4 : 255 < g
  · clear h
    go_enter Try.func121, Try.ntmps121
    go_wp2
    go_ret
    exact ⟨rfl, rfl⟩
  by_cases hc5 : c < 0
  · clear h
    go_enter Try.func121, Try.ntmps121
    go_wp2
    go_ret
    exact ⟨rfl, rfl⟩
  by_cases hc6 : 255 < c
  · clear h
    go_enter Try.func121, Try.ntmps121
    go_wp2
    go_ret
    exact ⟨rfl, rfl⟩
  omega

set_option maxHeartbeats 1000000 in
theorem specRollPrint_int (n k g c p r v z : Int) (w : World) (hn : 0 ≤ n) (hn9 : n < 1000003) (hk : 1 ≤ k) (hk9 : k ≤ 9223372036854775807) (hg : 0 ≤ g) (hg9 : g ≤ 255) (hc : 0 ≤ c) (hc9 : c ≤ 255) (hp : pwZ (k - 1) = p)
    (t1 : ((g + 1) * p).tmod 1000003 = r) (hr : 0 ≤ r) (hr9 : r < 1000003) (t2 : (n + 256000768 - r).tmod 1000003 = v) (hv : 0 ≤ v) (hv9 : v < 1000003) (t3 : (v * 257 + c + 1).tmod 1000003 = z) :
    Calls Try.prog 121 #[.int .i64 n, .int .i64 k, .int .i64 g, .int .i64 c] w fun e w' => e = .returned (.int .i64 z) ∧ w = w' := by
  have hp2 := pwZ_lt (k - 1)
  have c1 := fun w => specPrintPower_any (k - 1) w (by omega) (by omega)
  rw [hp] at c1 hp2
  obtain ⟨hp0, hp9⟩ := hp2
  have w1 : IntKind.i64.wrap ((g + 1) * p) = (g + 1) * p := IntWalk.i64_in _ (by
    have h1 : 0 ≤ (g + 1) * p := Int.mul_nonneg (by omega) (by omega)
    have h2 : (g + 1) * p ≤ 256 * 1000002 := Int.mul_le_mul (by omega) (by omega) (by omega) (by omega)
    omega)
  clear hp
  go_enter Try.func121, Try.ntmps121
  go_wp2_with fail
  refine (c1 _).mono ?_
  rintro e w2 ⟨rfl, rfl⟩
  go_wp2
  go_ret
  exact ⟨rfl, rfl⟩

theorem specRollPrint_ok (n k g c z : Nat) (w : World) (hn : n < 1000003) (hk : 1 ≤ k) (hk9 : (k : Int) ≤ 9223372036854775807) (hg : g ≤ 255) (hc : c ≤ 255) (hz : rollN n k g c = z) :
    Calls Try.prog 121 #[.int .i64 n, .int .i64 k, .int .i64 g, .int .i64 c] w fun e w' => e = .returned (.int .i64 z) ∧ w = w' := by
  have hp : pwZ ((k : Int) - 1) = (pwN (k - 1) : Nat) := by
    unfold pwZ; rw [if_neg (by omega)]; congr 2; omega
  unfold rollN at hz
  have hr9 : (g + 1) * pwN (k - 1) % 1000003 < 1000003 := Nat.mod_lt _ (by decide)
  obtain ⟨r, hr⟩ : ∃ r, (g + 1) * pwN (k - 1) % 1000003 = r := ⟨_, rfl⟩
  have t1 : (((g : Int) + 1) * ((pwN (k - 1) : Nat) : Int)).tmod 1000003 = ((r : Nat) : Int) := by rw [← hr]; exact tmod_nat _ _ (by simp)
  rw [hr] at hz hr9
  have hv9 : (n + 1000003 * 256 - r) % 1000003 < 1000003 := Nat.mod_lt _ (by decide)
  obtain ⟨v, hv⟩ : ∃ v, (n + 1000003 * 256 - r) % 1000003 = v := ⟨_, rfl⟩
  have t2 : ((n : Int) + 256000768 - (r : Int)).tmod 1000003 = (v : Int) := by rw [← hv]; exact tmod_nat _ _ (by omega)
  rw [hv] at hz hv9
  have t3 : ((v : Int) * 257 + (c : Int) + 1).tmod 1000003 = (z : Int) := by rw [← hz]; exact tmod_nat _ _ (by omega)
  exact specRollPrint_int n k g c _ r v z w (by omega) (by omega) (by omega) hk9 (by omega) (by omega) (by omega) (by omega) hp t1 (by omega) (by omega) t2 (by omega) (by omega) t3




end Go.Proofs.Ytclblnkeakkdeaa
