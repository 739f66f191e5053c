/-
  The contracts of the functions SignCounts (the program's and the model's). Condition: the text has at most 2^20 bytes.
-/
import Derived.Test.YtnbogoklmjnneaaAlike
import Derived.Test.YtnbogoklmjnneaaMathCnt
namespace Go.Proofs.Ytnbogoklmjnneaa
open Go.RowKit

set_option maxHeartbeats 2000000 in
theorem implSignCounts_is (s t : ByteArray) (w : World) (hs : s.size ≤ 1048576) (ht0 : alikeB s = t) :
    Calls Try.prog 33 #[.string s] w fun e w' => e = .returned (.tuple #[.int .i64 (cntP t.data.toList t.size), .int .i64 (cntH t.data.toList t.size), .int .i64 (cntS t.data.toList t.size)]) ∧ Below w.heap.size w w' := by
  have hts : t.size ≤ 1048576 := by have := alikeB_size s; rw [ht0] at this; omega
  go_enter Try.func33, Try.ntmps33
  go_wp2_with fail
  refine (implAlike_is s t _ hs ht0).mono ?_
  rintro e w1 ⟨a, n, c, rfl, hown, hb⟩
  clear ht0 hown hs
  go_wp2
  go_loop [7, 8, 9, 10] (fun p h g i => ∃ k : Nat, k ≤ t.size ∧ i = .int .i64 k ∧ p = .int .i64 (cntP t.data.toList k) ∧ h = .int .i64 (cntH t.data.toList k) ∧ g = .int .i64 (cntS t.data.toList k)) (fun _ _ _ i => t.size - (intOf i).toNat)
  case atStart => exact ⟨0, Nat.zero_le _, rfl, rfl, rfl, rfl⟩
  case round =>
    obtain ⟨k, hk, rfl, rfl, rfl, rfl⟩ := hrel
    have hsum := cnt_sum t.data.toList k
    by_cases hlt : k < t.size
    · have h256 : (t[k].toNat : Int) ≤ 255 := by have := t[k].toNat_lt; omega
      by_cases h32 : t[k].toNat = 32
      · have HE := Lib.hid (cnt_space hlt h32)
        have t1 : ((t[k].toNat : Int) == 32) = true := by rw [h32]; rfl
        clear h32
        go_wp2
        go_round
        case rel => exact ⟨k + 1, by omega, by go_num, by rw [HE.out.1], by rw [HE.out.2.1], by rw [HE.out.2.2]; go_num⟩
        case measure => simp [intOf]; omega
      · have t1 : ((t[k].toNat : Int) == 32) = false := by simp; omega
        by_cases h128 : 128 ≤ t[k].toNat
        · have HE := Lib.hid (cnt_high hlt h128)
          have t2 : (128 : Int) ≤ (t[k].toNat : Int) := by omega
          clear h32 h128
          go_wp2
          go_round
          case rel => exact ⟨k + 1, by omega, by go_num, by rw [HE.out.1], by rw [HE.out.2.1]; go_num, by rw [HE.out.2.2]⟩
          case measure => simp [intOf]; omega
        · have HE := Lib.hid (cnt_plain hlt h32 (by omega))
          have t2 : ¬ (128 : Int) ≤ (t[k].toNat : Int) := by omega
          clear h32 h128
          go_wp2
          go_round
          case rel => exact ⟨k + 1, by omega, by go_num, by rw [HE.out.1]; go_num, by rw [HE.out.2.1], by rw [HE.out.2.2]⟩
          case measure => simp [intOf]; omega
    · obtain rfl : k = t.size := by omega
      go_wp2
      go_ret3
      exact ⟨rfl, hb⟩

set_option maxHeartbeats 2000000 in
theorem specSignCounts_is (s t : ByteArray) (w : World) (hs : s.size ≤ 1048576) (ht0 : alikeB s = t) :
    Calls Try.prog 34 #[.string s] w fun e w' => e = .returned (.tuple #[.int .i64 (cntP t.data.toList t.size), .int .i64 (cntH t.data.toList t.size), .int .i64 (cntS t.data.toList t.size)]) ∧ Below w.heap.size w w' := by
  have hts : t.size ≤ 1048576 := by have := alikeB_size s; rw [ht0] at this; omega
  go_enter Try.func34, Try.ntmps34
  go_wp2_with fail
  refine (specAlike_is s t _ hs ht0).mono ?_
  rintro e w1 ⟨a, n, c, rfl, hown, hb⟩
  clear ht0 hown hs
  go_wp2
  go_loop [7, 8, 9, 10] (fun p h g i => ∃ k : Nat, k ≤ t.size ∧ i = .int .i64 k ∧ p = .int .i64 (cntP t.data.toList k) ∧ h = .int .i64 (cntH t.data.toList k) ∧ g = .int .i64 (cntS t.data.toList k)) (fun _ _ _ i => t.size - (intOf i).toNat)
  case atStart => exact ⟨0, Nat.zero_le _, rfl, rfl, rfl, rfl⟩
  case round =>
    obtain ⟨k, hk, rfl, rfl, rfl, rfl⟩ := hrel
    have hsum := cnt_sum t.data.toList k
    by_cases hlt : k < t.size
    · have h256 : (t[k].toNat : Int) ≤ 255 := by have := t[k].toNat_lt; omega
      by_cases h32 : t[k].toNat = 32
      · have HE := Lib.hid (cnt_space hlt h32)
        have t1 : ((t[k].toNat : Int) == 32) = true := by rw [h32]; rfl
        clear h32
        go_wp2
        go_round
        case rel => exact ⟨k + 1, by omega, by go_num, by rw [HE.out.1], by rw [HE.out.2.1], by rw [HE.out.2.2]; go_num⟩
        case measure => simp [intOf]; omega
      · have t1 : ((t[k].toNat : Int) == 32) = false := by simp; omega
        by_cases h128 : 128 ≤ t[k].toNat
        · have HE := Lib.hid (cnt_high hlt h128)
          have t2 : (128 : Int) ≤ (t[k].toNat : Int) := by omega
          clear h32 h128
          go_wp2
          go_round
          case rel => exact ⟨k + 1, by omega, by go_num, by rw [HE.out.1], by rw [HE.out.2.1]; go_num, by rw [HE.out.2.2]⟩
          case measure => simp [intOf]; omega
        · have HE := Lib.hid (cnt_plain hlt h32 (by omega))
          have t2 : ¬ (128 : Int) ≤ (t[k].toNat : Int) := by omega
          clear h32 h128
          go_wp2
          go_round
          case rel => exact ⟨k + 1, by omega, by go_num, by rw [HE.out.1]; go_num, by rw [HE.out.2.1], by rw [HE.out.2.2]⟩
          case measure => simp [intOf]; omega
    · obtain rfl : k = t.size := by omega
      go_wp2
      go_ret3
      exact ⟨rfl, hb⟩

end Go.Proofs.Ytnbogoklmjnneaa
