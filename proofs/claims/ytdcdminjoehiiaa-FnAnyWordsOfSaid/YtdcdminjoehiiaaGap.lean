/-
  The contracts of the small functions of chapter 2: isGapByte, wordBegins, wordEnd, endsSentence (the program's), l1Gap, l2Ends (the model's). Condition: texts of at most 2^20 bytes.
-/
import Derived.Test.YtdcdminjoehiiaaAlike
import Derived.Test.YtdcdminjoehiiaaMathWords
import Derived.Deep.QuietTactic
import Derived.BigQuiet
import Derived.IntWalk
import Derived.Outline
namespace Go.Proofs.Ytdcdminjoehiiaa
open Go.RowKit

theorem at0_get (s : ByteArray) (k : Nat) (h : k < s.size) : at0 s.data.toList k = s[k] := getD_at s k h

theorem isGapByte_is (b : UInt8) (g : Bool) (w : World) (h : gapB b = g) :
    Calls Try.prog 46 #[.int .u8 b.toNat] w fun e w' => e = .returned (.bool g) ∧ w = w' := by
  subst h
  have hb : (b.toNat : Int) ≤ 255 := by have := b.toNat_lt; omega
  obtain ⟨z, hz⟩ : ∃ z, signOf (b.toNat : Int) = z := ⟨_, rfl⟩
  have hE : gapB b = (z == 32) := by rw [gapB, hz]
  rw [hE]
  have HZ := Lib.hid hz
  clear hz hE
  go_enter Try.func46, Try.ntmps46
  go_wp2_with (go_at_call 31; refine (implSignOf_is _ _ _ HZ.out).mono ?_; rintro e w' ⟨rfl, rfl⟩)
  go_ret
  exact ⟨rfl, rfl⟩

theorem l1Gap_is (b : UInt8) (g : Bool) (w : World) (h : gapB b = g) :
    Calls Try.prog 42 #[.int .u8 b.toNat] w fun e w' => e = .returned (.bool g) ∧ w = w' := by
  cases g with
  | true => exact l1Gap_yes _ _ (gapB_yes h)
  | false =>
    have h1 := signOf_byte b (gapB_no h)
    exact l1Gap_no _ _ _ rfl h1.1

theorem endsSentence_is (b : UInt8) (g : Bool) (w : World) (h : endB b = g) :
    Calls Try.prog 47 #[.int .u8 b.toNat] w fun e w' => e = .returned (.bool g) ∧ ∃ q, w' = w.drewN q := by
  have hb : (b.toNat : Int) ≤ 255 := by have := b.toNat_lt; omega
  by_cases h1 : b = 46
  · subst h1; subst h
    go_enter Try.func47, Try.ntmps47
    go_wp2
    go_ret
    exact ⟨rfl, 0, rfl⟩
  · by_cases h2 : b = 33
    · subst h2; subst h
      go_enter Try.func47, Try.ntmps47
      go_wp2
      go_ret
      exact ⟨rfl, 0, rfl⟩
    · have e1 : ((b.toNat : Int) == 46) = false := by
        have : b.toNat ≠ 46 := fun e => h1 (UInt8.toNat_inj.1 e)
        simp; omega
      have e2 : ((b.toNat : Int) == 33) = false := by
        have : b.toNat ≠ 33 := fun e => h2 (UInt8.toNat_inj.1 e)
        simp; omega
      have e3 : endB b = ((b.toNat : Int) == 63) := by
        have h4 : (b == 63) = ((b.toNat : Int) == 63) := by
          by_cases hh : b = 63
          · subst hh; decide
          · have : b.toNat ≠ 63 := fun e => hh (UInt8.toNat_inj.1 e)
            have f1 : ((b.toNat : Int) == 63) = false := by simp; omega
            rw [f1]; simp [hh]
        simp [endB, h1, h2, h4]
      rw [e3] at h
      subst h
      clear h1 h2 e3
      go_enter Try.func47, Try.ntmps47
      go_wp2
      go_ret
      exact ⟨rfl, 0, rfl⟩

theorem l2Ends_is (b : UInt8) (g : Bool) (w : World) (h : endB b = g) :
    Calls Try.prog 48 #[.int .u8 b.toNat] w fun e w' => e = .returned (.bool g) ∧ ∃ q, w' = w.drewN q := by
  have hb : (b.toNat : Int) ≤ 255 := by have := b.toNat_lt; omega
  by_cases h1 : b = 46
  · subst h1; subst h
    go_enter Try.func48, Try.ntmps48
    go_wp2
    go_ret
    exact ⟨rfl, 0, rfl⟩
  · by_cases h2 : b = 33
    · subst h2; subst h
      go_enter Try.func48, Try.ntmps48
      go_wp2
      go_ret
      exact ⟨rfl, 0, rfl⟩
    · have e1 : ((b.toNat : Int) == 46) = false := by
        have : b.toNat ≠ 46 := fun e => h1 (UInt8.toNat_inj.1 e)
        simp; omega
      have e2 : ((b.toNat : Int) == 33) = false := by
        have : b.toNat ≠ 33 := fun e => h2 (UInt8.toNat_inj.1 e)
        simp; omega
      have e3 : endB b = ((b.toNat : Int) == 63) := by
        have h4 : (b == 63) = ((b.toNat : Int) == 63) := by
          by_cases hh : b = 63
          · subst hh; decide
          · have : b.toNat ≠ 63 := fun e => hh (UInt8.toNat_inj.1 e)
            have f1 : ((b.toNat : Int) == 63) = false := by simp; omega
            rw [f1]; simp [hh]
        simp [endB, h1, h2, h4]
      rw [e3] at h
      subst h
      clear h1 h2 e3
      go_enter Try.func48, Try.ntmps48
      go_wp2
      go_ret
      exact ⟨rfl, 0, rfl⟩


theorem wordBegins_is (s : ByteArray) (k : Nat) (g : Bool) (w : World) (hk : k < s.size) (hs : s.size ≤ 1048576) (h : begB s.data.toList k = g) :
    Calls Try.prog 40 #[.string s, .int .i64 k] w fun e w' => e = .returned (.bool g) ∧ w = w' := by
  have hA := at0_get s k hk
  have hb : (s[k].toNat : Int) ≤ 255 := by have := s[k].toNat_lt; omega
  rw [begB, hA] at h
  by_cases h1 : gapB s[k] = true
  · have H1 := Lib.hid h1
    rw [h1] at h
    simp at h
    subst h
    clear h1 hA
    go_enter Try.func40, Try.ntmps40
    go_wp2_with (go_at_call 46; refine (isGapByte_is _ _ _ H1.out).mono ?_; rintro e w' ⟨rfl, rfl⟩)
    go_ret
    exact ⟨rfl, rfl⟩
  · have h1' : gapB s[k] = false := by simpa using h1
    have H1 := Lib.hid h1'
    rw [h1'] at h
    simp only [Bool.not_false, Bool.true_and] at h
    clear h1 h1' hA
    by_cases h0 : k = 0
    · subst h0
      simp at h
      subst h
      go_enter Try.func40, Try.ntmps40
      go_wp2_with (go_at_call 46; refine (isGapByte_is _ _ _ H1.out).mono ?_; rintro e w' ⟨rfl, rfl⟩)
      go_ret
      exact ⟨rfl, rfl⟩
    · obtain ⟨j, rfl⟩ : ∃ j, k = j + 1 := ⟨k - 1, by omega⟩
      have hj : j < s.size := by omega
      rw [show j + 1 - 1 = j from rfl, at0_get s j hj] at h
      have hb2 : (s[j].toNat : Int) ≤ 255 := by have := s[j].toNat_lt; omega
      have h2 : gapB s[j] = g := by rw [← h]; simp
      have H2 := Lib.hid h2
      clear h h2
      have t1 : (((j : Int) + 1) == 0) = false := by simp; omega
      have t2 : IntKind.i64.wrap ((j : Int) + 1 - 1) = j := by rw [IntWalk.i64_in _ (by omega)]; omega
      go_enter Try.func40, Try.ntmps40
      go_wp2_with fail
      refine (isGapByte_is _ _ _ H1.out).mono ?_
      rintro e w' ⟨rfl, rfl⟩
      go_wp2_with fail
      refine (isGapByte_is _ _ _ H2.out).mono ?_
      rintro e w' ⟨rfl, rfl⟩
      go_wp2
      go_ret
      exact ⟨rfl, rfl⟩

theorem wordEnd_is (s : ByteArray) (k g : Nat) (w : World) (hk : k < s.size) (hs : s.size ≤ 1048576) (h : wEnd s.data.toList k = g) :
    Calls Try.prog 41 #[.string s, .int .i64 k] w fun e w' => e = .returned (.int .i64 g) ∧ w = w' := by
  have HW := Lib.hid h
  clear h
  go_enter Try.func41, Try.ntmps41
  go_wp2
  go_loop [5] (fun t => ∃ j : Nat, k ≤ j ∧ j ≤ s.size ∧ t = .int .i64 j ∧ Hid (∀ i, k ≤ i → i < j → gapB (at0 s.data.toList i) = false)) (fun t => s.size - (intOf t).toNat)
  case atStart => exact ⟨k, Nat.le_refl _, by omega, rfl, Lib.hid (fun i h1 h2 => by omega)⟩
  case round =>
    obtain ⟨j, hkj, hj, rfl, HB⟩ := hrel
    by_cases hlt : j < s.size
    · have hA := at0_get s j hlt
      have hb : (s[j].toNat : Int) ≤ 255 := by have := s[j].toNat_lt; omega
      by_cases h1 : gapB s[j] = true
      · have H1 := Lib.hid h1
        have HE := Lib.hid (wEnd_uniq s.data.toList k j (by have e : s.data.toList.length = s.size := rfl; omega) hkj (by rw [hA]; exact h1) HB.out)
        clear h1 hA
        go_wp2_with (go_at_call 46; refine (isGapByte_is _ _ _ H1.out).mono ?_; rintro e w' ⟨rfl, rfl⟩)
        go_ret
        exact ⟨ret_int (by rw [← HW.out, HE.out]), rfl⟩
      · have h1' : gapB s[j] = false := by simpa using h1
        have H1 := Lib.hid h1'
        have HB2 := Lib.hid (show ∀ i, k ≤ i → i < j + 1 → gapB (at0 s.data.toList i) = false from fun i hi1 hi2 => by
          by_cases hi : i = j
          · subst hi; rw [hA]; exact h1'
          · exact HB.out i hi1 (by omega))
        clear h1 h1' hA
        go_wp2_with (go_at_call 46; refine (isGapByte_is _ _ _ H1.out).mono ?_; rintro e w' ⟨rfl, rfl⟩)
        go_round
        case rel => exact ⟨j + 1, by omega, by omega, by go_num, HB2⟩
        case measure => simp [intOf]; omega
    · obtain rfl : j = s.size := by omega
      have HE := Lib.hid (wEnd_uniq s.data.toList k s.size (by have e : s.data.toList.length = s.size := rfl; omega) hkj (by rw [at0_end s.data.toList s.size (Nat.le_refl _)]; exact gapB_zero) HB.out)
      go_wp2_with fail
      go_ret
      exact ⟨ret_int (by rw [← HW.out, HE.out]), rfl⟩

end Go.Proofs.Ytdcdminjoehiiaa
