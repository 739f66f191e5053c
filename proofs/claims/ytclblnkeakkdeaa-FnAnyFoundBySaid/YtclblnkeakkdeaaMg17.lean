/-
  The contracts of the program's functions of fingerprints: printStep, PrintOf, PrintPower, rolledPrint, isPrint, isByte, RollPrint, JoinPrint. Condition: texts have at most 2^22 bytes.
  The contracts of the program's PrintsOf and FindPrint, and of the model's FindPrint. Condition: texts have at most 2^22 bytes.
  The contracts of the model's functions l4Least, ChosenOf and SureLength. Condition: rows have at most 2^22 numbers.
-/
import Derived.Test.YtclblnkeakkdeaaMg7
import Derived.Test.YtclblnkeakkdeaaMg10
import Derived.Test.YtclblnkeakkdeaaMg11
import Derived.Test.YtclblnkeakkdeaaMg3
import Derived.Deep.QuietTactic
import Derived.BigQuiet
import Derived.IntWalk
namespace Go.Proofs.Ytclblnkeakkdeaa
open Go.RowKit

theorem implPrintStep_int (n c z : Int) (w : World) (hn : 0 ≤ n) (hn9 : n < 4000000) (hc : 0 ≤ c) (hc9 : c ≤ 255) (hz : (n * 257 + c + 1).tmod 1000003 = z) :
    Calls Try.prog 116 #[.int .i64 n, .int .i64 c] w fun e w' => e = .returned (.int .i64 z) ∧ w = w' := by
  go_enter Try.func116, Try.ntmps116
  go_wp2
  go_ret
  exact ⟨rfl, rfl⟩

set_option maxHeartbeats 1000000 in
theorem implPrintOf_any (s : ByteArray) (w : World) (hs : s.size ≤ 4194305) :
    Calls Try.prog 88 #[.string s] w fun e w' => e = .returned (.int .i64 (prN s.data.toList)) ∧ w = w' := by
  go_enter Try.func88, Try.ntmps88
  go_wp2
  go_loop [3, 4] (fun n i => ∃ k x : Nat, k ≤ s.size ∧ i = .int .i64 k ∧ n = .int .i64 x ∧ x < 1000003 ∧ Hid (x = prN (s.data.toList.take k))) (fun _ i => s.size - (intOf i).toNat)
  case atStart => exact ⟨0, 0, Nat.zero_le _, rfl, rfl, by omega, Lib.hid rfl⟩
  case round =>
    obtain ⟨k, x, hk, rfl, rfl, hx, HX⟩ := hrel
    by_cases hlt : k < s.size
    · have hb : (s[k].toNat : Int) ≤ 255 := by have := s[k].toNat_lt; omega
      have hy := prF_take s k hlt
      rw [← HX.out] at hy
      have hy9 := prStep_lt x s[k]
      have et : ((x : Int) * 257 + (s[k].toNat : Int) + 1).tmod 1000003 = (prStep x s[k] : Int) := tmod_nat _ (x * 257 + s[k].toNat + 1) (by omega)
      obtain ⟨y, hyy⟩ : ∃ y, prStep x s[k] = y := ⟨_, rfl⟩
      rw [hyy] at hy hy9 et
      have HY := Lib.hid hy
      have ET := Lib.hid et
      clear hy hyy HX et
      go_wp2_with fail
      refine (implPrintStep_int _ _ (y : Int) _ (by omega) (by omega) (by omega) hb ET.out).mono ?_
      rintro e w2 ⟨rfl, rfl⟩
      go_wp2
      go_round
      case rel => exact ⟨k + 1, y, by omega, by go_num, by go_num, hy9, Lib.hid HY.out.symm⟩
      case measure => simp [intOf]; omega
    · have hkk : k = s.size := by omega
      have hE : s.data.toList.take k = s.data.toList := by rw [hkk]; exact List.take_of_length_le (Nat.le_refl _)
      have h1 := HX.out
      rw [hE] at h1
      clear hE
      go_wp2
      go_ret
      exact ⟨rfl, rfl⟩

theorem implPrintOf_is (s : ByteArray) (x : Nat) (w : World) (hs : s.size ≤ 4194305) (hx : prN s.data.toList = x) :
    Calls Try.prog 88 #[.string s] w fun e w' => e = .returned (.int .i64 x) ∧ w = w' := by
  subst hx; exact implPrintOf_any s w hs

set_option maxHeartbeats 1000000 in
theorem implPrintPower_any (n : Int) (w : World) (h1 : -9223372036854775808 ≤ n) (h2 : n ≤ 9223372036854775807) :
    Calls Try.prog 87 #[.int .i64 n] w fun e w' => e = .returned (.int .i64 (pwZ n)) ∧ w = w' := by
  by_cases hn : n < 0
  · have e : pwZ n = 0 := by unfold pwZ; rw [if_pos hn]
    rw [e]
    clear e
    go_enter Try.func87, Try.ntmps87
    go_wp2
    go_ret
    exact ⟨rfl, rfl⟩
  · obtain ⟨m, rfl⟩ : ∃ m : Nat, n = m := ⟨n.toNat, by omega⟩
    have e : pwZ (m : Int) = (pwN m : Nat) := by unfold pwZ; rw [if_neg hn, Int.toNat_natCast]
    obtain ⟨z, hz⟩ : ∃ z, pwZ (m : Int) = z := ⟨_, rfl⟩
    rw [hz] at e ⊢
    have HE := Lib.hid e
    have hs : Eqm (1 * 257 ^ m) (257 ^ m) := by rw [Nat.one_mul]; exact Eqm.refl _
    have HS := Lib.hid hs
    clear e hz hs
    go_enter Try.func87, Try.ntmps87
    go_wp2
    go_loop [3, 4, 5] (fun out base left => ∃ k o b : Nat, k ≤ m ∧ left = .int .i64 k ∧ out = .int .i64 o ∧ base = .int .i64 b ∧ o < 1000003 ∧ b < 1000003 ∧ Hid (Eqm (o * b ^ k) (257 ^ m))) (fun _ _ left => (intOf left).toNat)
    case atStart => exact ⟨m, 1, 257, Nat.le_refl _, rfl, rfl, rfl, by omega, by omega, HS⟩
    case round =>
      obtain ⟨k, o, b, hk, rfl, rfl, rfl, ho, hb, HR⟩ := hrel
      by_cases h0 : 0 < k
      · have hbb : b * b ≤ 1000002 * 1000002 := Nat.mul_le_mul (by omega) (by omega)
        have hob : o * b ≤ 1000002 * 1000002 := Nat.mul_le_mul (by omega) (by omega)
        have et1 : ((b : Int) * (b : Int)).tmod 1000003 = ((b * b % 1000003 : Nat) : Int) := tmod_nat _ (b * b) (by simp)
        have et2 : ((o : Int) * (b : Int)).tmod 1000003 = ((o * b % 1000003 : Nat) : Int) := tmod_nat _ (o * b) (by simp)
        have ht : (k : Int).tdiv 2 = ((k / 2 : Nat) : Int) := (Int.ofNat_tdiv k 2).symm
        have hm : (k : Int).tmod 2 = ((k % 2 : Nat) : Int) := (Int.ofNat_tmod k 2).symm
        have w1 : IntKind.i64.wrap ((b : Int) * (b : Int)) = (b : Int) * (b : Int) := IntWalk.i64_in _ (by
          have : ((b * b : Nat) : Int) ≤ 1000002 * 1000002 := by omega
          rw [Int.natCast_mul] at this
          have h3 : 0 ≤ (b : Int) * (b : Int) := Int.mul_nonneg (by omega) (by omega)
          omega)
        have w2 : IntKind.i64.wrap ((o : Int) * (b : Int)) = (o : Int) * (b : Int) := IntWalk.i64_in _ (by
          have : ((o * b : Nat) : Int) ≤ 1000002 * 1000002 := by omega
          rw [Int.natCast_mul] at this
          have h3 : 0 ≤ (o : Int) * (b : Int) := Int.mul_nonneg (by omega) (by omega)
          omega)
        have l1 : b * b % 1000003 < 1000003 := Nat.mod_lt _ (by decide)
        have l2 : o * b % 1000003 < 1000003 := Nat.mod_lt _ (by decide)
        have se := sq_even o b k
        have so := sq_odd o b k
        obtain ⟨q, hq⟩ : ∃ q, b * b % 1000003 = q := ⟨_, rfl⟩
        obtain ⟨p, hp⟩ : ∃ p, o * b % 1000003 = p := ⟨_, rfl⟩
        rw [hq] at et1 l1 se so
        rw [hp] at et2 l2 so
        obtain ⟨d, hd⟩ : ∃ d, k / 2 = d := ⟨_, rfl⟩
        rw [hd] at ht se so
        have hdk : d < k := by omega
        by_cases hodd : k % 2 = 1
        · rw [hodd] at hm
          have HN := Lib.hid ((so hodd).trans HR.out)
          clear se so hq hp hd hbb hob
          go_wp2
          go_round
          case rel => exact ⟨d, p, q, by omega, by go_num, by go_num, by go_num, l2, l1, HN⟩
          case measure => simp [intOf]; omega
        · have hev : k % 2 = 0 := by omega
          rw [hev] at hm
          have HN := Lib.hid ((se hev).trans HR.out)
          clear se so hq hp hd hbb hob
          go_wp2
          go_round
          case rel => exact ⟨d, o, q, by omega, by go_num, by go_num, by go_num, ho, l1, HN⟩
          case measure => simp [intOf]; omega
      · obtain rfl : k = 0 := by omega
        have h3 := HR.out
        rw [Nat.pow_zero, Nat.mul_one] at h3
        have h4 : o = pwN m := Eqm.eq (h3.trans (pwN_eqm m).symm) ho (pwN_lt m)
        have h5 := HE.out
        clear h3
        go_wp2
        go_ret
        exact ⟨ret_i64 (by omega), rfl⟩

set_option maxHeartbeats 1000000 in
theorem implRolled_int (n p g c r z : Int) (w : World) (hn : 0 ≤ n) (hn9 : n < 1000003) (hp0 : 0 ≤ p) (hp9 : p < 1000003) (hg : 0 ≤ g) (hg9 : g ≤ 255) (hc : 0 ≤ c) (hc9 : c ≤ 255)
    (t1 : ((g + 1) * p).tmod 1000003 = r) (hr : 0 ≤ r) (hr9 : r < 1000003) (t3 : ((n + 1000003 - r) * 257 + c + 1).tmod 1000003 = z) :
    Calls Try.prog 89 #[.int .i64 n, .int .i64 p, .int .i64 g, .int .i64 c] w fun e w' => e = .returned (.int .i64 z) ∧ w = w' := by
  have w1 : IntKind.i64.wrap ((g + 1) * p) = (g + 1) * p := IntWalk.i64_in _ (by
    have h1 : 0 ≤ (g + 1) * p := Int.mul_nonneg (by omega) (by omega)
    have h2 : (g + 1) * p ≤ 256 * 1000002 := Int.mul_le_mul (by omega) (by omega) (by omega) (by omega)
    omega)
  have T3 := Lib.hid t3
  clear t3
  go_enter Try.func89, Try.ntmps89
  go_wp2_with fail
  refine (implPrintStep_int _ _ z _ (by omega) (by omega) hc hc9 T3.out).mono ?_
  rintro e w2 ⟨rfl, rfl⟩
  go_wp2
  go_ret
  exact ⟨rfl, rfl⟩

theorem roll_same (n r q c z : Nat) (hr : r < 1000003) (hq : q + r = n + 1000003) (hz : ((n + 1000003 * 256 - r) % 1000003 * 257 + c + 1) % 1000003 = z) : (q * 257 + c + 1) % 1000003 = z := by
  have hx : n + 1000003 * 256 - r = q + 1000003 * 255 := by omega
  have e1 : Eqm (n + 1000003 * 256 - r) q := hx ▸ Eqm.whole q 255
  have e2 : Eqm (q * 257 + c + 1) ((n + 1000003 * 256 - r) % 1000003 * 257 + c + 1) := ((((Eqm.rest _).trans e1).symm.mul (Eqm.refl 257)).add (Eqm.refl c)).add (Eqm.refl 1)
  exact Eq.trans e2 hz

/-- With the power of one byte less than the piece has. -/
theorem implRolled_ok (n k g c z : Nat) (p : Int) (w : World) (hp : p = (pwN (k - 1) : Nat)) (hn : n < 1000003) (hg : g ≤ 255) (hc : c ≤ 255) (hz : rollN n k g c = z) :
    Calls Try.prog 89 #[.int .i64 n, .int .i64 p, .int .i64 g, .int .i64 c] w fun e w' => e = .returned (.int .i64 z) ∧ w = w' := by
  subst hp
  have hp9 := pwN_lt (k - 1)
  unfold rollN at hz
  have hr9 : (g + 1) * pwN (k - 1) % 1000003 < 1000003 := Nat.mod_lt _ (by decide)
  obtain ⟨r, hr⟩ : ∃ r, (g + 1) * pwN (k - 1) % 1000003 = r := ⟨_, rfl⟩
  have t1 : (((g : Int) + 1) * ((pwN (k - 1) : Nat) : Int)).tmod 1000003 = ((r : Nat) : Int) := by rw [← hr]; exact tmod_nat _ _ (by simp)
  rw [hr] at hz hr9
  obtain ⟨q, hq⟩ : ∃ q, q + r = n + 1000003 := ⟨n + 1000003 - r, by omega⟩
  have e2 : (q * 257 + c + 1) % 1000003 = z := roll_same n r q c z hr9 hq hz
  clear hz hr
  have e3 : (n : Int) + 1000003 - (r : Int) = (q : Int) := by omega
  have t3 : (((n : Int) + 1000003 - (r : Int)) * 257 + (c : Int) + 1).tmod 1000003 = (z : Int) := by rw [e3, tmod_nat _ (q * 257 + c + 1) (by omega), e2]
  exact implRolled_int n _ g c r z w (by omega) (by omega) (by omega) (by omega) (by omega) (by omega) (by omega) (by omega) t1 (by omega) (by omega) t3

theorem implIsPrint_is (b : Bool) (n : Int) (w : World) (h : decide (0 ≤ n ∧ n < 1000003) = b) :
    Calls Try.prog 102 #[.int .i64 n] w fun e w' => e = .returned (.bool b) ∧ w = w' := by
  by_cases h0 : 0 ≤ n
  · by_cases h1 : n < 1000003
    · obtain rfl : true = b := by rw [← h]; simp [h0, h1]
      clear h
      go_enter Try.func102, Try.ntmps102
      go_wp2
      go_ret
      exact ⟨rfl, rfl⟩
    · obtain rfl : false = b := by rw [← h]; simp [h0, h1]
      clear h
      go_enter Try.func102, Try.ntmps102
      go_wp2
      go_ret
      exact ⟨rfl, rfl⟩
  · obtain rfl : false = b := by rw [← h]; simp [h0]
    clear h
    go_enter Try.func102, Try.ntmps102
    go_wp2
    go_ret
    exact ⟨rfl, rfl⟩


end Go.Proofs.Ytclblnkeakkdeaa

namespace Go.Proofs.Ytclblnkeakkdeaa
open Go.RowKit

theorem One.lit (w : World) (e : TypeId) (v : Value) : One w w.heap.size (w.alloc (.cells #[v] e)) e 1 (some ⟨w.heap.size, 0, none⟩) 1 1 [v] :=
  ⟨World.ownsRow_lit w #[v] 1 (Nat.le_refl _) (by unfold maxLen; omega) (by simp), heap_le_alloc _ _, (Below.refl _ _).alloc (Nat.le_refl _) _⟩

theorem implPrintsOf_bad (s : ByteArray) (k : Int) (w : World) (h : k < 1 ∨ (s.size : Int) < k) :
    Calls Try.prog 47 #[.string s, .int .i64 k] w fun e w' => ∃ a n c, e = .returned (.slice a n c) ∧ One w w.heap.size w' 3 1 a n c (intCells []) := by
  by_cases hk : k < 1
  · clear h
    go_enter Try.func47, Try.ntmps47
    go_wp2
    go_ret
    exact ⟨_, _, _, rfl, One.nil _ _ _⟩
  · by_cases hk2 : (s.size : Int) < k
    · clear h
      go_enter Try.func47, Try.ntmps47
      go_wp2
      go_ret
      exact ⟨_, _, _, rfl, One.nil _ _ _⟩
    · omega

set_option maxHeartbeats 2000000 in
theorem implPrintsOf_ok (s : ByteArray) (k : Nat) (w : World) (hs : s.size ≤ 4194304) (h1 : 0 < k) (h2 : k ≤ s.size) :
    Calls Try.prog 47 #[.string s, .int .i64 k] w fun e w' => ∃ a n c, e = .returned (.slice a n c) ∧ One w w.heap.size w' 3 1 a n c (intCells (printsTo s.data.toList k (s.size - k + 1))) := by
  have hp := prN_lt (pieceL s.data.toList k 0)
  obtain ⟨x, hx⟩ : ∃ x, prN (pieceL s.data.toList k 0) = x := ⟨_, rfl⟩
  have HX := Lib.hid (show prN (s.extract 0 k).data.toList = x by rw [extract_first]; exact hx)
  have HX2 := Lib.hid hx
  have HR := Lib.hid (show intCells (printsTo s.data.toList k 1) = [.int .i64 x] by rw [printsK s.data.toList k 0 hx]; rfl)
  have hxs : (s.extract 0 k).size ≤ 4194305 := by simp only [ByteArray.size_extract]; omega
  rw [hx] at hp
  clear hx
  have hpw : pwZ ((k : Int) - 1) = (pwN (k - 1) : Nat) := by
    unfold pwZ; rw [if_neg (by omega)]; congr 2; omega
  have c0 := fun w => implPrintPower_any ((k : Int) - 1) w (by omega) (by omega)
  obtain ⟨t, ht⟩ : ∃ t, pwZ ((k : Int) - 1) = t := ⟨_, rfl⟩
  rw [ht] at c0 hpw
  have HT := Lib.hid hpw
  have HS := Lib.hid (show s.data.toList.length = s.size from rfl)
  clear ht hpw
  go_enter Try.func47, Try.ntmps47
  go_wp2_with fail
  refine (c0 _).mono ?_
  rintro e w1 ⟨rfl, rfl⟩
  go_wp2_with fail
  refine (implPrintOf_is _ _ _ hxs HX.out).mono ?_
  rintro e w1 ⟨rfl, rfl⟩
  go_wp2
  have h3 := One.lit w 3 (.int .i64 x)
  go_loopw [6, 7, 8] (fun n v q_ wr => ∃ i x q : Nat, q ≤ s.size ∧ q_ = .int .i64 q ∧ n = .int .i64 x ∧ x < 1000003 ∧ Hid (q = i + k ∧ prN (pieceL s.data.toList k i) = x) ∧ i ≤ s.size ∧ ∃ a c, v = .slice a (i + 1) c ∧ One w w.heap.size wr 3 1 a (i + 1) c (intCells (printsTo s.data.toList k (q - k + 1))))
    (fun _ _ q_ _ => s.size - (intOf q_).toNat)
  case atStart => exact ⟨0, x, k, h2, rfl, rfl, hp, Lib.hid ⟨by omega, HX2.out⟩, by omega, _, _, rfl, by rw [Nat.sub_self, HR.out]; exact h3⟩
  case round =>
    obtain ⟨i, x, q, hq, rfl, rfl, hx9, HQ, hi, a, c, rfl, hone⟩ := hrel
    by_cases hlt : q < s.size
    · have hqi := HQ.out.1
      have hii : i < s.size := by omega
      have hy : rollN (prN (pieceL s.data.toList k i)) k s[i].toNat s[q].toNat = prN (pieceL s.data.toList k (i + 1)) := pieces_roll s k i q h1 hqi hlt
      rw [HQ.out.2] at hy
      have hy9 := prN_lt (pieceL s.data.toList k (i + 1))
      obtain ⟨y, hyy⟩ : ∃ y, prN (pieceL s.data.toList k (i + 1)) = y := ⟨_, rfl⟩
      rw [hyy] at hy hy9
      have hki : q - k + 1 = i + 1 := by omega
      have hki2 : q + 1 - k = i + 1 := by omega
      rw [hki] at hone
      have HK := Lib.hid (show intCells (printsTo s.data.toList k (q + 1 - k + 1)) = intCells (printsTo s.data.toList k (i + 1)) ++ [.int .i64 y] by rw [hki2]; exact printsK s.data.toList k (i + 1) hyy)
      have HN := Lib.hid (show q + 1 = (i + 1) + k ∧ prN (pieceL s.data.toList k (i + 1)) = y from ⟨by omega, hyy⟩)
      have HY := Lib.hid hy
      have e1 : IntKind.i64.wrap ((q : Int) - (k : Int)) = (i : Int) := by rw [IntWalk.i64_in _ (by omega)]; omega
      have b1 : s[i].toNat ≤ 255 := by have := s[i].toNat_lt; omega
      have b2 : s[q].toNat ≤ 255 := by have := s[q].toNat_lt; omega
      clear hqi hy hyy HQ hki hki2
      go_wp2
      go_quiet ((go_at_call 89; exact Calls.quiet_of_same ((implRolled_ok _ _ _ _ y _ _ HT.out hx9 b1 b2 HY.out).mono (fun _ _ h => ⟨h.1, h.2.symm⟩))))
      go_wp2_with (at_builtin; refine wpList_append_row rfl (.tmp 46) (.tmp 48) 33 rfl Try.ulI3 Try.infoI3 rfl (by decide) (hone.drewN _) rfl #[.int .i64 y] rfl rfl (by simp [Value.oneCell']) (by unfold maxLen; omega) (by omega) ?_; intro a5 c5 w5 h5)
      go_roundw
      case rel => exact ⟨i + 1, y, q + 1, by omega, by go_num, rfl, hy9, HN, by omega, a5, c5, rfl, by rw [HK.out]; exact h5⟩
      case measure => simp [intOf]; omega
    · obtain rfl : q = s.size := by omega
      have HO := Lib.hid hone
      clear hone
      go_wp2
      go_ret
      exact ⟨_, _, _, rfl, HO.out⟩

theorem printsL_bad {s : List UInt8} {k : Int} (h : k < 1 ∨ (s.length : Int) < k) : printsL s k = [] := by unfold printsL; rw [if_pos h]
theorem printsL_ok {s : List UInt8} {k : Nat} (h1 : 0 < k) (h2 : k ≤ s.length) : printsL s (k : Int) = printsTo s k (s.length - k + 1) := by
  unfold printsL; rw [if_neg (by omega), Int.toNat_natCast]

/-- At every number of bytes. -/
theorem implPrintsOf_is (s : ByteArray) (k : Int) (L : List Int) (w : World) (hs : s.size ≤ 4194304) (hL : printsL s.data.toList k = L) :
    Calls Try.prog 47 #[.string s, .int .i64 k] w fun e w' => ∃ a n c, e = .returned (.slice a n c) ∧ One w w.heap.size w' 3 1 a n c (intCells L) := by
  by_cases h : k < 1 ∨ (s.size : Int) < k
  · rw [printsL_bad h] at hL; subst hL; exact implPrintsOf_bad s k w h
  · obtain ⟨j, rfl⟩ : ∃ j : Nat, k = j := ⟨k.toNat, by omega⟩
    have e := printsL_ok (s := s.data.toList) (k := j) (by omega) (show j ≤ s.size by omega)
    rw [e] at hL; subst hL
    exact implPrintsOf_ok s j w hs (by omega) (by omega)
theorem specPrintsOf_is (s : ByteArray) (k : Int) (L : List Int) (w : World) (hs : s.size ≤ 4194304) (hL : printsL s.data.toList k = L) :
    Calls Try.prog 108 #[.string s, .int .i64 k] w fun e w' => ∃ a n c, e = .returned (.slice a n c) ∧ One w w.heap.size w' 3 1 a n c (intCells L) := by
  by_cases h : k < 1 ∨ (s.size : Int) < k
  · rw [printsL_bad h] at hL; subst hL; exact specPrintsOf_bad s k w h
  · obtain ⟨j, rfl⟩ : ∃ j : Nat, k = j := ⟨k.toNat, by omega⟩
    have e := printsL_ok (s := s.data.toList) (k := j) (by omega) (show j ≤ s.size by omega)
    rw [e] at hL; subst hL
    exact specPrintsOf_ok s j w hs (by omega) (by omega)

/-! ### Places of a piece -/
theorem findTo_len (s p : List UInt8) (m : Nat) : (findTo s p m).length ≤ m := by
  induction m with
  | zero => simp [findTo]
  | succ m ih =>
    unfold findTo
    split
    · simp; omega
    · omega

/-- What a walk over the fingerprints of a piece's length knows of them. -/
structure FindKnown (s p : ByteArray) (L : List Int) (n : Nat) : Prop where
  len : L.length ≤ s.size
  fits : ∀ i, i < L.length → i + p.size ≤ s.size
  print : ∀ i, i < L.length → L.getD i 0 = (prN (pieceL s.data.toList p.size i) : Nat)
  all : findTo s.data.toList p.data.toList L.length = findL s.data.toList p.data.toList
  one : n = prN p.data.toList

theorem find_known (s p : ByteArray) (L : List Int) (n : Nat) (hL : printsL s.data.toList (p.size : Int) = L) (hn : prN p.data.toList = n) : FindKnown s p L n := by
  have hsl : s.data.toList.length = s.size := rfl
  have hpl : p.data.toList.length = p.size := rfl
  by_cases h : (p.size : Int) < 1 ∨ (s.size : Int) < (p.size : Int)
  · rw [printsL_bad h] at hL
    subst hL
    refine ⟨by simp, fun i hi => by simp at hi, fun i hi => by simp at hi, ?_, hn.symm⟩
    unfold findL
    rw [if_pos (by omega)]
    rfl
  · have e := printsL_ok (s := s.data.toList) (k := p.size) (by omega) (by omega)
    rw [e] at hL
    subst hL
    refine ⟨by rw [printsTo_len]; omega, fun i hi => by rw [printsTo_len] at hi; omega, fun i hi => ?_, ?_, hn.symm⟩
    · rw [printsTo_len] at hi
      exact printsTo_get _ _ _ _ hi
    · unfold findL
      rw [if_neg (by omega), printsTo_len, hpl]

theorem toListP_inj {a b : ByteArray} (h : a.toList = b.toList) : a = b := by
  rw [ByteArray.toList_eq, ByteArray.toList_eq] at h
  exact ByteArray.ext (Array.toList_inj.1 h)
theorem eqP_no {a b : ByteArray} (h : a ≠ b) : (a.toList == b.toList) = false := by
  rw [Bool.eq_false_iff]
  intro e
  exact h (toListP_inj (by simpa using e))
theorem extract_piece (s : ByteArray) (i k : Nat) : (s.extract i (i + k)).data.toList = pieceL s.data.toList k i := by
  rw [ByteArray.data_extract, Array.toList_extract, List.extract_eq_take_drop, pieceL]
  congr 1
  omega
theorem piece_iff (s p : ByteArray) (i : Nat) : s.extract i (i + p.size) = p ↔ pieceL s.data.toList p.data.toList.length i = p.data.toList := by
  have hpl : p.data.toList.length = p.size := rfl
  rw [hpl, ← extract_piece]
  constructor
  · intro h; rw [h]
  · intro h; exact ByteArray.ext (Array.toList_inj.1 h)

theorem findTo_yes {s p : List UInt8} {i : Nat} (h : pieceL s p.length i = p) : intCells (findTo s p (i + 1)) = intCells (findTo s p i) ++ [.int .i64 i] := by
  rw [findTo, if_pos h, intCells_append]; rfl
theorem findTo_no {s p : List UInt8} {i : Nat} (h : ¬ pieceL s p.length i = p) : findTo s p (i + 1) = findTo s p i := by
  rw [findTo, if_neg h]

theorem cells_int {w : World} {b o : Nat} {L : List Int} (i : Nat) (x : Int) (hx : L.getD i 0 = x) (hi : i < L.length) (hc : ∀ j v, (intCells L)[j]? = some v → w.cell? ⟨b, o + j, none⟩ = some v) : w.cell? ⟨b, o + i, none⟩ = some (.int .i64 x) := by
  refine hc i _ ?_
  subst hx
  simp [intCells, List.getD, List.getElem?_eq_getElem hi]

end Go.Proofs.Ytclblnkeakkdeaa

namespace Go.Proofs.Ytclblnkeakkdeaa
open Go.RowKit

/-- Cells of places. -/
def natC (l : List Nat) : List Value := intCells (l.map fun (n : Nat) => (n : Int))
theorem natC_new {L : List Int} {w k : Nat} (h : ¬ (chN L w k).getLast? = some (leastTo L k w)) : natC (chN L w (k + 1)) = natC (chN L w k) ++ [.int .i64 (leastTo L k w)] := by
  rw [chN_new h, natC, List.map_append, intCells_append]; rfl

set_option maxHeartbeats 1000000 in
theorem specLeast_any (L : List Int) (a : Option Addr) (n c f v : Nat) (w : World) (hn : n = L.length) (hl : n ≤ 1099511627776) (hv : 0 < v) (hf : f + v ≤ n) (hat : CellsAt w a (intCells L)) :
    Calls Try.prog 122 #[.slice a n c, .int .i64 f, .int .i64 v] w fun e w' => e = .returned (.int .i64 (leastTo L f v)) ∧ ∃ q, w' = w.drewN q := by
  have hfl : f < L.length := by omega
  obtain ⟨b, o, rfl, _, hc⟩ := hat.spot (fun e => by have := congrArg List.length e; simp [intCells] at this; rw [this] at hfl; simp at hfl)
  have HC := Lib.hid (show ∀ j, j < L.length → w.cell? ⟨b, o + j, none⟩ = some (.int .i64 (L.getD j 0)) from fun j hj => cells_int j _ rfl hj hc)
  have HN := Lib.hid hn
  clear hat hc hn hfl
  go_enter Try.func122, Try.ntmps122
  go_wp2
  go_loopw [7, 8] (fun b_ k_ wr => ∃ m x : Nat, m ≤ v ∧ k_ = .int .i64 ((f + m : Nat) : Int) ∧ b_ = .int .i64 x ∧ x < n ∧ Hid (x = leastTo L f m) ∧ ∃ q, wr = w.drewN q) (fun _ k_ _ => f + v - (intOf k_).toNat)
  case atStart => exact ⟨0, f, Nat.zero_le _, rfl, rfl, by omega, Lib.hid rfl, 0, rfl⟩
  case round =>
    obtain ⟨m, x, hm, rfl, rfl, hx, HX, q, rfl⟩ := hrel
    obtain ⟨k, hk⟩ : ∃ k, f + m = k := ⟨_, rfl⟩
    rw [hk]
    by_cases hlt : m < v
    · have hkn : k < n := by omega
      have hkv : k < f + v := by omega
      have g1 : w.cell? ⟨b, o + k, none⟩ = some (.int .i64 (L.getD k 0)) := HC.out k (by have := HN.out; omega)
      have g2 : w.cell? ⟨b, o + x, none⟩ = some (.int .i64 (L.getD x 0)) := HC.out x (by have := HN.out; omega)
      obtain ⟨y, hy⟩ : ∃ y, L.getD k 0 = y := ⟨_, rfl⟩
      obtain ⟨z, hz⟩ : ∃ z, L.getD x 0 = z := ⟨_, rfl⟩
      rw [hy] at g1
      rw [hz] at g2
      by_cases hyz : y ≤ z
      · have HN2 := Lib.hid (show k = leastTo L f (m + 1) by rw [leastTo, if_pos (by rw [hk, hy, ← HX.out, hz]; exact hyz), hk])
        have HK := Lib.hid hk
        clear hy hz hk
        go_wp2
        go_quiet (fail)
        go_wp2
        go_roundw
        case rel => exact ⟨m + 1, k, by omega, by have := HK.out; go_num, rfl, hkn, HN2, _, rfl⟩
        case measure => simp [intOf]; omega
      · have HN2 := Lib.hid (show x = leastTo L f (m + 1) by rw [leastTo, if_neg (by rw [hk, hy, ← HX.out, hz]; exact hyz)]; exact HX.out)
        have HK := Lib.hid hk
        clear hy hz hk
        go_wp2
        go_quiet (fail)
        go_wp2
        go_roundw
        case rel => exact ⟨m + 1, x, by omega, by have := HK.out; go_num, rfl, hx, HN2, _, rfl⟩
        case measure => simp [intOf]; omega
    · obtain rfl : m = v := by omega
      have hkv : k = f + m := hk.symm
      clear hk
      go_wp2
      go_ret
      exact ⟨ret_i64 (by have := HX.out; omega), q, rfl⟩

set_option maxHeartbeats 2000000 in
theorem specChosen_any (L : List Int) (a : Option Addr) (n c : Nat) (v : Int) (w : World) (hn : n = L.length) (hl : n ≤ 4194304) (hv9 : v ≤ 9223372036854775807) (hat : CellsAt w a (intCells L)) :
    Calls Try.prog 109 #[.slice a n c, .int .i64 v] w fun e w' => ∃ a' n' c', e = .returned (.slice a' n' c') ∧ One w w.heap.size w' 3 1 a' n' c' (natC (chosenN L v)) := by
  by_cases hv : v < 1
  · rw [chosenN_few (.inl hv)]
    go_enter Try.func109, Try.ntmps109
    go_wp2
    go_ret
    exact ⟨_, _, _, rfl, One.empty _ _ _⟩
  obtain ⟨v, rfl⟩ : ∃ u : Nat, v = u := ⟨v.toNat, by omega⟩
  have hv1 : 1 ≤ v := by omega
  have HE := Lib.hid (chosenN_ok (L := L) (w := v) (by omega))
  have HN := Lib.hid hn
  clear hv hn
  go_enter Try.func109, Try.ntmps109
  go_wp2
  go_loopw [5, 6] (fun o_ k_ wr => ∃ k : Nat, k ≤ n + 1 - v ∧ k_ = .int .i64 k ∧ ∃ a' n' c', o_ = .slice a' n' c' ∧ One w w.heap.size wr 3 1 a' n' c' (natC (chN L v k))) (fun _ k_ _ => n + 1 - v - (intOf k_).toNat)
  case atStart => exact ⟨0, Nat.zero_le _, rfl, _, _, _, rfl, One.empty _ _ _⟩
  case round =>
    obtain ⟨k, hk, rfl, a', n', c', rfl, hone⟩ := hrel
    by_cases hlt : k + v ≤ n
    · have hn' : n' ≤ k := by
        have h := hone.own.1
        have h2 := chN_len L v k
        simp only [natC, intCells, List.length_map] at h
        omega
      have c1 := specLeast_any L a n c k v wr HN.out (by omega) (by omega) (by omega) (hat.below hone.below)
      have hx9 := (leastTo_is L k v (by omega)).hi
      obtain ⟨x, hx⟩ : ∃ x, leastTo L k v = x := ⟨_, rfl⟩
      rw [hx] at c1 hx9
      have HX := Lib.hid hx
      clear hx
      go_wp2_with fail
      refine c1.mono ?_
      rintro e w2 ⟨rfl, q, rfl⟩
      have hone2 := hone.drewN q
      obtain ⟨wz, HW⟩ : ∃ wz, Hid (wr.drewN q = wz) := ⟨_, Lib.hid rfl⟩
      rw [HW.out] at hone2 ⊢
      clear hone c1 HW
      by_cases hn0 : n' = 0
      · subst hn0
        have hnil : chN L v k = [] := by
          have h := hone2.own.1
          simp only [natC, intCells, List.length_map] at h
          exact List.length_eq_zero_iff.1 (by omega)
        have HS := Lib.hid (show natC (chN L v (k + 1)) = natC (chN L v k) ++ [.int .i64 x] by rw [natC_new (by rw [hnil]; simp), HX.out])
        clear hnil
        go_wp2_with (at_builtin; refine wpList_append_row rfl (.tmp 37) (.tmp 39) 33 rfl Try.ulI3 Try.infoI3 rfl (by decide) hone2 rfl #[.int .i64 x] rfl rfl (by simp [Value.oneCell']) (by unfold maxLen; omega) (by omega) ?_; intro a5 c5 w5 h5)
        go_roundw
        case rel => exact ⟨k + 1, by omega, by go_num, a5, 1, c5, rfl, by rw [HS.out]; exact h5⟩
        case measure => simp [intOf]; omega
      · obtain ⟨p, rfl⟩ : ∃ p, n' = p + 1 := ⟨n' - 1, by omega⟩
        obtain ⟨m, rfl⟩ : ∃ m, k = m + 1 := ⟨k - 1, by omega⟩
        obtain ⟨g, rfl⟩ := hone2.addr (by omega)
        have hlast := chN_last L v m
        obtain ⟨y, hy⟩ : ∃ y, leastTo L m v = y := ⟨_, rfl⟩
        rw [hy] at hlast
        have hcell : wz.cell? ⟨g, p, none⟩ = some (.int .i64 (y : Int)) := by
          rw [hone2.own.cellAt p (by omega)]
          have h := hone2.own.1
          simp only [natC, intCells, List.length_map] at h
          rw [List.getLast?_eq_getElem?, show (chN L v (m + 1)).length - 1 = p by omega] at hlast
          simp [natC, intCells, hlast]
        have HL := Lib.hid hlast
        have z0 : (0 : Int) ≤ p := by omega
        have z1 : (p : Int) < (p : Int) + 1 := by omega
        clear hy hlast
        by_cases hxy : y = x
        · have t1 : ((y : Int) == (x : Int)) = true := by rw [hxy]; exact beq_self_eq_true _
          have t2 : ((y : Int) != (x : Int)) = false := by rw [bne, t1]; rfl
          have HS := Lib.hid (show natC (chN L v (m + 1 + 1)) = natC (chN L v (m + 1)) by rw [chN_same (by rw [HL.out, hxy, HX.out])])
          clear hxy
          go_wp2
          go_roundw
          case rel => exact ⟨m + 1 + 1, by omega, by go_num, _, p + 1, c', rfl, by rw [HS.out]; exact hone2⟩
          case measure => simp [intOf]; omega
        · have t1 : ((y : Int) == (x : Int)) = false := by simp; omega
          have t2 : ((y : Int) != (x : Int)) = true := by rw [bne, t1]; rfl
          have HS := Lib.hid (show natC (chN L v (m + 1 + 1)) = natC (chN L v (m + 1)) ++ [.int .i64 x] by rw [natC_new (by rw [HL.out, HX.out]; simpa using hxy), HX.out])
          clear hxy
          go_wp2_with (at_builtin; refine wpList_append_row rfl (.tmp 37) (.tmp 39) 33 rfl Try.ulI3 Try.infoI3 rfl (by decide) hone2 rfl #[.int .i64 x] rfl rfl (by simp [Value.oneCell']) (by unfold maxLen; omega) (by omega) ?_; intro a5 c5 w5 h5)
          go_roundw
          case rel => exact ⟨m + 1 + 1, by omega, by go_num, a5, p + 1 + 1, c5, rfl, by rw [HS.out]; exact h5⟩
          case measure => simp [intOf]; omega
    · have hke : k = L.length + 1 - v := by have := HN.out; omega
      have HO := Lib.hid (show One w w.heap.size wr 3 1 a' n' c' (natC (chosenN L v)) by rw [HE.out, ← hke]; exact hone)
      clear hone hke
      go_wp2
      go_ret
      exact ⟨_, _, _, rfl, HO.out⟩


end Go.Proofs.Ytclblnkeakkdeaa
