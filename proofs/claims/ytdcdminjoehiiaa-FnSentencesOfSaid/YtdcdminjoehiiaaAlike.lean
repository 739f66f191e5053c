/-
  The contracts of the functions Alike: they return the text made alike and the places of its signs, in memory of their own; nothing that was there is written. Condition: the text has at most 2^20 bytes.
-/
import Derived.Test.YtdcdminjoehiiaaSig
import Derived.Test.YtdcdminjoehiiaaOwnA
import Derived.Test.YtdcdminjoehiiaaMathAlike
import Derived.Lib.Hide
namespace Go.Proofs.Ytdcdminjoehiiaa
open Go.RowKit

theorem Try.ulB : Try.prog.underlying 22 = some (.slice 5) := by kernel_rfl
theorem Try.ulI : Try.prog.underlying 27 = some (.slice 3) := by kernel_rfl
theorem Try.ulb : Try.prog.underlying 5 = some (.int .u8) := by kernel_rfl
theorem Try.uls : Try.prog.underlying 9 = some .string := by kernel_rfl
theorem Try.infoI : (Try.prog.info? 3).map (fun i => (i.zero, i.size, i.bytes)) = some (some (.int .i64 0), 1, 8) := by kernel_rfl
theorem Try.infoB : (Try.prog.info? 5).map (fun i => (i.zero, i.size, i.bytes)) = some (some (.int .u8 0), 1, 1) := by kernel_rfl


set_option maxHeartbeats 4000000 in
theorem implAlike_any (s : ByteArray) (w : World) (hs : s.size ≤ 1048576) :
    Calls Try.prog 15 #[.string s] w fun e w' => ∃ a n c, e = .returned (.tuple #[.string (alikeB s), .slice a n c]) ∧
      w'.ownsRow w.heap.size 3 1 (.slice a n c) n (intCells (alikeP s.data.toList)) ∧ Below w.heap.size w w' := by
  go_enter Try.func15, Try.ntmps15
  go_wp2
  go_loopw [4, 5, 6, 7] (fun v1 v2 g i wr => ∃ k : Nat, k ≤ s.size ∧ i = .int .i64 k ∧ g = .int .i64 (stA s.data.toList k).gap ∧
      (∃ a1 n1 c1 a2 n2 c2, v1 = .slice a1 n1 c1 ∧ v2 = .slice a2 n2 c2 ∧
        Two w w.heap.size wr 5 1 a1 n1 c1 (byteCells (stA s.data.toList k).out) 3 1 a2 n2 c2 (intCells (stA s.data.toList k).at_)))
    (fun _ _ _ i _ => s.size - (intOf i).toNat)
  case atStart => exact ⟨0, Nat.zero_le _, rfl, rfl, none, 0, 0, none, 0, 0, rfl, rfl, World.ownsRow_nil _ _ _ _, World.ownsRow_nil _ _ _ _, by decide, Nat.le_refl _, Below.refl _ _⟩
  case round =>
    obtain ⟨k, hk, rfl, rfl, a1, n1, c1, a2, n2, c2, rfl, rfl, htwo⟩ := hrel
    by_cases hlt : k < s.size
    · have hgap := stA_gap s.data.toList k
      have hroom := stA_room s.data.toList k
      have hn1 := htwo.one.1
      have hn2 := htwo.two.1
      have hl2 := (stA_len s.data.toList k).1
      simp only [byteCells, intCells, List.length_map, Nat.mul_one] at hn1 hn2
      have hb : (s[k].toNat : Int) ≤ 255 := by have := s[k].toNat_lt; omega
      have hm1 : n1 + 1 + 1 ≤ 2000000 := by omega
      have hm2 : n2 + 1 + 1 ≤ 2000000 := by omega
      by_cases hsg : signOf (s[k].toNat : Int) = 32
      · have HS : Hid (signOf (s[k].toNat : Int) = 32) := hsg
        clear hsg hn1 hn2 hl2 hroom
        by_cases hg : (stA s.data.toList k).gap < 0
        · obtain ⟨E1, E2, E3⟩ := at_gap hlt HS.out hg
          have HE : Hid ((stA s.data.toList (k + 1)).gap = k) := E1
          rw [← E2, ← E3] at htwo
          clear E1 E2 E3
          go_wp2_with (go_at_call 31; refine (implSignOf_is _ _ _ HS.out).mono ?_; rintro e w' ⟨rfl, rfl⟩)
          go_roundw
          case rel => exact ⟨k + 1, by omega, by go_num, by rw [HE.out], _, _, _, _, _, _, rfl, rfl, htwo⟩
          case measure => simp [intOf]; omega
        · have HE : Hid (stA s.data.toList (k + 1) = stA s.data.toList k) := at_gap_on hlt HS.out hg
          go_wp2_with (go_at_call 31; refine (implSignOf_is _ _ _ HS.out).mono ?_; rintro e w' ⟨rfl, rfl⟩)
          go_roundw
          case rel => exact ⟨k + 1, by omega, by go_num, by rw [HE.out], _, _, _, _, _, _, rfl, rfl, by rw [HE.out]; exact htwo⟩
          case measure => simp [intOf]; omega
      · have hr := signOf_byte s[k] hsg
        obtain ⟨g, hG⟩ : ∃ g, signOf (s[k].toNat : Int) = g := ⟨_, rfl⟩
        rw [hG] at hr
        have HG : Hid (signOf (s[k].toNat : Int) = g) := hG
        obtain ⟨hr1, hr2⟩ := hr
        have t1 : (g != 32) = true := by simp; omega
        have hln : (stA s.data.toList k).out.length = n1 := hn1
        clear hsg hG hn1 hn2 hl2 hroom
        by_cases hg : 0 ≤ (stA s.data.toList k).gap ∧ 0 < n1
        · obtain ⟨hg1, hg2⟩ := hg
          have HE := Lib.hid (at_two hlt HG.out hr1 hr2 hg1 (by omega))
          clear hln
          go_wp2_with (first
            | (go_at_call 31; refine (implSignOf_is _ _ _ HG.out).mono ?_; rintro e w' ⟨rfl, rfl⟩)
            | (at_builtin; refine wpList_append_fst rfl (.tmp 29) (.tmp 30) 22 rfl Try.ulB Try.infoB rfl (by decide) htwo rfl #[.int .u8 32] rfl rfl (by simp [Value.oneCell']) (by unfold maxLen; omega) (by omega) ?_; intro a3 c3 w3 h3)
            | (at_builtin; refine wpList_append_snd rfl (.tmp 32) (.tmp 34) 27 rfl Try.ulI Try.infoI rfl (by decide) h3 rfl #[.int .i64 (stA s.data.toList k).gap] rfl rfl (by simp [Value.oneCell']) (by unfold maxLen; omega) (by omega) ?_; intro a4 c4 w4 h4)
            | (at_builtin; refine wpList_append_fst rfl (.tmp 36) (.tmp 39) 22 rfl Try.ulB Try.infoB rfl (by decide) h4 rfl #[.int .u8 g] rfl rfl (by simp [Value.oneCell']) (by unfold maxLen; omega) (by omega) ?_; intro a5 c5 w5 h5)
            | (at_builtin; refine wpList_append_snd rfl (.tmp 41) (.tmp 43) 27 rfl Try.ulI Try.infoI rfl (by decide) h5 rfl #[.int .i64 k] rfl rfl (by simp [Value.oneCell']) (by unfold maxLen; omega) (by omega) ?_; intro a6 c6 w6 h6))
          go_roundw
          case rel => exact ⟨k + 1, by omega, by go_num, by rw [HE.out.1], _, _, _, _, _, _, rfl, rfl, by rw [HE.out.2.1, HE.out.2.2]; exact h6⟩
          case measure => simp [intOf]; omega
        · have HE := Lib.hid (at_one hlt HG.out hr1 hr2 (by omega))
          clear hln
          by_cases hg1 : 0 ≤ (stA s.data.toList k).gap
          · obtain rfl : n1 = 0 := by omega
            go_wp2_with (first
              | (go_at_call 31; refine (implSignOf_is _ _ _ HG.out).mono ?_; rintro e w' ⟨rfl, rfl⟩)
              | (at_builtin; refine wpList_append_fst rfl (.tmp 36) (.tmp 39) 22 rfl Try.ulB Try.infoB rfl (by decide) htwo rfl #[.int .u8 g] rfl rfl (by simp [Value.oneCell']) (by unfold maxLen; omega) (by omega) ?_; intro a5 c5 w5 h5)
              | (at_builtin; refine wpList_append_snd rfl (.tmp 41) (.tmp 43) 27 rfl Try.ulI Try.infoI rfl (by decide) h5 rfl #[.int .i64 k] rfl rfl (by simp [Value.oneCell']) (by unfold maxLen; omega) (by omega) ?_; intro a6 c6 w6 h6))
            go_roundw
            case rel => exact ⟨k + 1, by omega, by go_num, by rw [HE.out.1], _, _, _, _, _, _, rfl, rfl, by rw [HE.out.2.1, HE.out.2.2]; exact h6⟩
            case measure => simp [intOf]; omega
          · go_wp2_with (first
              | (go_at_call 31; refine (implSignOf_is _ _ _ HG.out).mono ?_; rintro e w' ⟨rfl, rfl⟩)
              | (at_builtin; refine wpList_append_fst rfl (.tmp 36) (.tmp 39) 22 rfl Try.ulB Try.infoB rfl (by decide) htwo rfl #[.int .u8 g] rfl rfl (by simp [Value.oneCell']) (by unfold maxLen; omega) (by omega) ?_; intro a5 c5 w5 h5)
              | (at_builtin; refine wpList_append_snd rfl (.tmp 41) (.tmp 43) 27 rfl Try.ulI Try.infoI rfl (by decide) h5 rfl #[.int .i64 k] rfl rfl (by simp [Value.oneCell']) (by unfold maxLen; omega) (by omega) ?_; intro a6 c6 w6 h6))
            go_roundw
            case rel => exact ⟨k + 1, by omega, by go_num, by rw [HE.out.1], _, _, _, _, _, _, rfl, rfl, by rw [HE.out.2.1, HE.out.2.2]; exact h6⟩
            case measure => simp [intOf]; omega
    · have hconv := run_string_owned (P := Try.prog) 22 9 5 Try.ulB Try.ulb Try.uls htwo.one
      go_wp2
      go_ret2
      obtain rfl : k = s.size := by omega
      exact ⟨_, _, _, rfl, htwo.two, htwo.below⟩
theorem l1Gap_yes (b : Int) (w : World) (h : signOf b = 32) :
    Calls Try.prog 42 #[.int .u8 b] w fun e w' => e = .returned (.bool true) ∧ w = w' := by
  have hb : 0 ≤ b ∧ b ≤ 255 := by
    unfold signOf at h
    split at h
    · omega
    · omega
  have HS := Lib.hid h
  clear h
  go_enter Try.func42, Try.ntmps42
  go_wp2_with (go_at_call 56; refine (specSignOf_is _ _ _ HS.out).mono ?_; rintro e w' ⟨rfl, rfl⟩)
  go_ret
  exact ⟨rfl, rfl⟩

theorem l1Gap_no (b g : Int) (w : World) (h : signOf b = g) (h48 : 48 ≤ g) :
    Calls Try.prog 42 #[.int .u8 b] w fun e w' => e = .returned (.bool false) ∧ w = w' := by
  have hb : 0 ≤ b ∧ b ≤ 255 := by
    unfold signOf at h
    split at h
    · omega
    · omega
  have HS := Lib.hid h
  clear h
  have t1 : (g == 32) = false := by simp; omega
  go_enter Try.func42, Try.ntmps42
  go_wp2_with (go_at_call 56; refine (specSignOf_is _ _ _ HS.out).mono ?_; rintro e w' ⟨rfl, rfl⟩)
  go_ret
  exact ⟨rfl, rfl⟩

set_option maxHeartbeats 4000000 in
theorem specAlike_any (s : ByteArray) (w : World) (hs : s.size ≤ 1048576) :
    Calls Try.prog 43 #[.string s] w fun e w' => ∃ a n c, e = .returned (.tuple #[.string (alikeB s), .slice a n c]) ∧
      w'.ownsRow w.heap.size 3 1 (.slice a n c) n (intCells (alikeP s.data.toList)) ∧ Below w.heap.size w w' := by
  go_enter Try.func43, Try.ntmps43
  go_wp2
  go_loopw [4, 5, 6, 7] (fun v1 v2 g i wr => ∃ k : Nat, k ≤ s.size ∧ i = .int .i64 k ∧ g = .int .i64 (stA s.data.toList k).gap ∧
      (∃ a1 n1 c1 a2 n2 c2, v1 = .slice a1 n1 c1 ∧ v2 = .slice a2 n2 c2 ∧
        Two w w.heap.size wr 5 1 a1 n1 c1 (byteCells (stA s.data.toList k).out) 3 1 a2 n2 c2 (intCells (stA s.data.toList k).at_)))
    (fun _ _ _ i _ => s.size - (intOf i).toNat)
  case atStart => exact ⟨0, Nat.zero_le _, rfl, rfl, _, _, _, _, _, _, rfl, rfl, (World.ownsRow_lit w #[] 0 (Nat.le_refl _) (Nat.zero_le _) rfl).alloc _, own_second _ _ _ _, by decide, heap_le_alloc2 _ _ _, below_alloc2 _ _ _⟩
  case round =>
    obtain ⟨k, hk, rfl, rfl, a1, n1, c1, a2, n2, c2, rfl, rfl, htwo⟩ := hrel
    by_cases hlt : k < s.size
    · have hgap := stA_gap s.data.toList k
      have hroom := stA_room s.data.toList k
      have hn1 := htwo.one.1
      have hn2 := htwo.two.1
      have hl2 := (stA_len s.data.toList k).1
      simp only [byteCells, intCells, List.length_map, Nat.mul_one] at hn1 hn2
      have hb : (s[k].toNat : Int) ≤ 255 := by have := s[k].toNat_lt; omega
      have hm1 : n1 + 1 + 1 ≤ 2000000 := by omega
      have hm2 : n2 + 1 + 1 ≤ 2000000 := by omega
      by_cases hsg : signOf (s[k].toNat : Int) = 32
      · have HS : Hid (signOf (s[k].toNat : Int) = 32) := hsg
        clear hsg hn1 hn2 hl2 hroom
        by_cases hg : (stA s.data.toList k).gap < 0
        · obtain ⟨E1, E2, E3⟩ := at_gap hlt HS.out hg
          have HE : Hid ((stA s.data.toList (k + 1)).gap = k) := E1
          rw [← E2, ← E3] at htwo
          clear E1 E2 E3
          go_wp2_with (go_at_call 42; refine (l1Gap_yes _ _ HS.out).mono ?_; rintro e w' ⟨rfl, rfl⟩)
          go_roundw
          case rel => exact ⟨k + 1, by omega, by go_num, by rw [HE.out], _, _, _, _, _, _, rfl, rfl, htwo⟩
          case measure => simp [intOf]; omega
        · have HE : Hid (stA s.data.toList (k + 1) = stA s.data.toList k) := at_gap_on hlt HS.out hg
          go_wp2_with (go_at_call 42; refine (l1Gap_yes _ _ HS.out).mono ?_; rintro e w' ⟨rfl, rfl⟩)
          go_roundw
          case rel => exact ⟨k + 1, by omega, by go_num, by rw [HE.out], _, _, _, _, _, _, rfl, rfl, by rw [HE.out]; exact htwo⟩
          case measure => simp [intOf]; omega
      · have hr := signOf_byte s[k] hsg
        obtain ⟨g, hG⟩ : ∃ g, signOf (s[k].toNat : Int) = g := ⟨_, rfl⟩
        rw [hG] at hr
        have HG : Hid (signOf (s[k].toNat : Int) = g) := hG
        obtain ⟨hr1, hr2⟩ := hr
        have t1 : (g != 32) = true := by simp; omega
        have hln : (stA s.data.toList k).out.length = n1 := hn1
        clear hsg hG hn1 hn2 hl2 hroom
        by_cases hg : 0 ≤ (stA s.data.toList k).gap ∧ 0 < n1
        · obtain ⟨hg1, hg2⟩ := hg
          have HE := Lib.hid (at_two hlt HG.out hr1 hr2 hg1 (by omega))
          clear hln
          go_wp2_with (first
            | (go_at_call 42; refine (l1Gap_no _ _ _ HG.out hr1).mono ?_; rintro e w' ⟨rfl, rfl⟩) | (go_at_call 56; refine (specSignOf_is _ _ _ HG.out).mono ?_; rintro e w' ⟨rfl, rfl⟩)
            | (at_builtin; refine wpList_append_fst rfl (.tmp 30) (.tmp 31) 22 rfl Try.ulB Try.infoB rfl (by decide) htwo rfl #[.int .u8 32] rfl rfl (by simp [Value.oneCell']) (by unfold maxLen; omega) (by omega) ?_; intro a3 c3 w3 h3)
            | (at_builtin; refine wpList_append_snd rfl (.tmp 33) (.tmp 35) 27 rfl Try.ulI Try.infoI rfl (by decide) h3 rfl #[.int .i64 (stA s.data.toList k).gap] rfl rfl (by simp [Value.oneCell']) (by unfold maxLen; omega) (by omega) ?_; intro a4 c4 w4 h4)
            | (at_builtin; refine wpList_append_fst rfl (.tmp 37) (.tmp 44) 22 rfl Try.ulB Try.infoB rfl (by decide) h4 rfl #[.int .u8 g] rfl rfl (by simp [Value.oneCell']) (by unfold maxLen; omega) (by omega) ?_; intro a5 c5 w5 h5)
            | (at_builtin; refine wpList_append_snd rfl (.tmp 46) (.tmp 48) 27 rfl Try.ulI Try.infoI rfl (by decide) h5 rfl #[.int .i64 k] rfl rfl (by simp [Value.oneCell']) (by unfold maxLen; omega) (by omega) ?_; intro a6 c6 w6 h6))
          go_roundw
          case rel => exact ⟨k + 1, by omega, by go_num, by rw [HE.out.1], _, _, _, _, _, _, rfl, rfl, by rw [HE.out.2.1, HE.out.2.2]; exact h6⟩
          case measure => simp [intOf]; omega
        · have HE := Lib.hid (at_one hlt HG.out hr1 hr2 (by omega))
          clear hln
          by_cases hg1 : 0 ≤ (stA s.data.toList k).gap
          · obtain rfl : n1 = 0 := by omega
            go_wp2_with (first
              | (go_at_call 42; refine (l1Gap_no _ _ _ HG.out hr1).mono ?_; rintro e w' ⟨rfl, rfl⟩) | (go_at_call 56; refine (specSignOf_is _ _ _ HG.out).mono ?_; rintro e w' ⟨rfl, rfl⟩)
              | (at_builtin; refine wpList_append_fst rfl (.tmp 37) (.tmp 44) 22 rfl Try.ulB Try.infoB rfl (by decide) htwo rfl #[.int .u8 g] rfl rfl (by simp [Value.oneCell']) (by unfold maxLen; omega) (by omega) ?_; intro a5 c5 w5 h5)
              | (at_builtin; refine wpList_append_snd rfl (.tmp 46) (.tmp 48) 27 rfl Try.ulI Try.infoI rfl (by decide) h5 rfl #[.int .i64 k] rfl rfl (by simp [Value.oneCell']) (by unfold maxLen; omega) (by omega) ?_; intro a6 c6 w6 h6))
            go_roundw
            case rel => exact ⟨k + 1, by omega, by go_num, by rw [HE.out.1], _, _, _, _, _, _, rfl, rfl, by rw [HE.out.2.1, HE.out.2.2]; exact h6⟩
            case measure => simp [intOf]; omega
          · go_wp2_with (first
              | (go_at_call 42; refine (l1Gap_no _ _ _ HG.out hr1).mono ?_; rintro e w' ⟨rfl, rfl⟩) | (go_at_call 56; refine (specSignOf_is _ _ _ HG.out).mono ?_; rintro e w' ⟨rfl, rfl⟩)
              | (at_builtin; refine wpList_append_fst rfl (.tmp 37) (.tmp 44) 22 rfl Try.ulB Try.infoB rfl (by decide) htwo rfl #[.int .u8 g] rfl rfl (by simp [Value.oneCell']) (by unfold maxLen; omega) (by omega) ?_; intro a5 c5 w5 h5)
              | (at_builtin; refine wpList_append_snd rfl (.tmp 46) (.tmp 48) 27 rfl Try.ulI Try.infoI rfl (by decide) h5 rfl #[.int .i64 k] rfl rfl (by simp [Value.oneCell']) (by unfold maxLen; omega) (by omega) ?_; intro a6 c6 w6 h6))
            go_roundw
            case rel => exact ⟨k + 1, by omega, by go_num, by rw [HE.out.1], _, _, _, _, _, _, rfl, rfl, by rw [HE.out.2.1, HE.out.2.2]; exact h6⟩
            case measure => simp [intOf]; omega
    · have hconv := run_string_owned (P := Try.prog) 22 9 5 Try.ulB Try.ulb Try.uls htwo.one
      go_wp2
      go_ret2
      obtain rfl : k = s.size := by omega
      exact ⟨_, _, _, rfl, htwo.two, htwo.below⟩
theorem implAlike_is (s t : ByteArray) (w : World) (hs : s.size ≤ 1048576) (ht : alikeB s = t) :
    Calls Try.prog 15 #[.string s] w fun e w' => ∃ a n c, e = .returned (.tuple #[.string t, .slice a n c]) ∧
      w'.ownsRow w.heap.size 3 1 (.slice a n c) n (intCells (alikeP s.data.toList)) ∧ Below w.heap.size w w' := by
  subst ht; exact implAlike_any s w hs

theorem specAlike_is (s t : ByteArray) (w : World) (hs : s.size ≤ 1048576) (ht : alikeB s = t) :
    Calls Try.prog 43 #[.string s] w fun e w' => ∃ a n c, e = .returned (.tuple #[.string t, .slice a n c]) ∧
      w'.ownsRow w.heap.size 3 1 (.slice a n c) n (intCells (alikeP s.data.toList)) ∧ Below w.heap.size w w' := by
  subst ht; exact specAlike_any s w hs

end Go.Proofs.Ytdcdminjoehiiaa
