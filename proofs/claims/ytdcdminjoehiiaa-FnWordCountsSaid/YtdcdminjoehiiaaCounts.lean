/-
  The contracts of mergedTexts, sortedTexts and the functions WordCounts (the program's and the model's). Condition: the texts and their bytes are at most 2^20 together.
-/
import Derived.Test.YtdcdminjoehiiaaTexts
import Derived.Test.YtdcdminjoehiiaaMathCounts
import Derived.WalkLawsBesides
import Derived.Outline
namespace Go.Proofs.Ytdcdminjoehiiaa
open Go.RowKit

set_option maxHeartbeats 4000000 in
theorem mergedTexts_any (xs ys : List ByteArray) (a b : Option Addr) (n m c d : Nat) (w : World) (hn : n = xs.length) (hm : m = ys.length) (hnc : n ≤ c) (hmd : m ≤ d) (hnm : n + m ≤ 1048576) (h1 : CellsAt w a (strsC xs)) (h2 : CellsAt w b (strsC ys)) (hxs : SortedB xs) (hys : SortedB ys) :
    Calls Try.prog 57 #[.slice a n c, .slice b m d] w fun e w' => ∃ a' n' c' zs, e = .returned (.slice a' n' c') ∧ One w w.heap.size w' 9 1 a' n' c' (strsC zs) ∧ zs.Perm (xs ++ ys) ∧ SortedB zs := by
  have HN := Lib.hid hn
  have HM := Lib.hid hm
  have HXS := Lib.hid hxs
  have HYS := Lib.hid hys
  clear hn hm hxs hys
  go_enter Try.func57, Try.ntmps57
  go_wp2
  go_loopw [5, 6, 7] (fun v p q wr => ∃ i j : Nat, i ≤ n ∧ j ≤ m ∧ p = .int .i64 i ∧ q = .int .i64 j ∧ ∃ a1 c1 l, v = .slice a1 (i + j) c1 ∧ One w w.heap.size wr 9 1 a1 (i + j) c1 (strsC l) ∧ Hid (MergeI xs ys l i j))
    (fun _ p q _ => (n + m) - ((intOf p).toNat + (intOf q).toNat))
  case atStart => exact ⟨0, 0, Nat.zero_le _, Nat.zero_le _, rfl, rfl, none, 0, [], rfl, One.nil _ _ _, Lib.hid (MergeI.start _ _)⟩
  case round =>
    obtain ⟨i, j, hi, hj, rfl, rfl, a1, c1, l, rfl, hone, HI⟩ := hrel
    by_cases hin : i < n
    · by_cases hjm : j < m
      · have hil : i < xs.length := by rw [← HN.out]; exact hin
        have hjl : j < ys.length := by rw [← HM.out]; exact hjm
        obtain ⟨b1, o1, rfl, hb1, hc1⟩ := h1.str (fun e => by rw [e] at hil; simp at hil)
        obtain ⟨b2, o2, rfl, hb2, hc2⟩ := h2.str (fun e => by rw [e] at hjl; simp at hjl)
        obtain ⟨x, hx⟩ : ∃ x, xs[i] = x := ⟨_, rfl⟩
        obtain ⟨y, hy⟩ : ∃ y, ys[j] = y := ⟨_, rfl⟩
        have g1 : wr.cell? ⟨b1, o1 + i, none⟩ = some (.string x) := by rw [hone.below.cell (p := ⟨b1, o1 + i, none⟩) hb1, hc1 i hil, hx]
        have g2 : wr.cell? ⟨b2, o2 + j, none⟩ = some (.string y) := by rw [hone.below.cell (p := ⟨b2, o2 + j, none⟩) hb2, hc2 j hjl, hy]
        clear hc1 hc2
        by_cases hlt : Op.bytesLess y.toList x.toList = true
        · have HX := Lib.hid (HI.out.right HXS.out HYS.out hil hjl (show ltB ys[j] xs[i] = true by rw [hx, hy]; exact hlt))
          rw [hy] at HX
          clear hx hy HI
          go_wp2
          go_quiet (fail)
          go_wp2_with (at_builtin; refine wpList_append_row rfl (.tmp 27) (.tmp 32) 33 rfl Try.ulS Try.infoS rfl (by decide) (hone.drewN _) rfl #[.string y] rfl rfl (by simp [Value.oneCell']) (by unfold maxLen; omega) (by omega) ?_; intro a3 c3 w3 h3)
          go_roundw
          case rel => exact ⟨i, j + 1, by omega, by omega, rfl, by go_num, _, _, _, rfl, by rw [strsC_append]; exact h3, HX⟩
          case measure => simp [intOf]; omega
        · have hlt' : Op.bytesLess y.toList x.toList = false := by simpa using hlt
          have HX := Lib.hid (HI.out.left HXS.out HYS.out hil hjl (show ltB ys[j] xs[i] = false by rw [hx, hy]; exact hlt'))
          rw [hx] at HX
          clear hx hy HI hlt
          go_wp2
          go_quiet (fail)
          go_wp2_with (at_builtin; refine wpList_append_row rfl (.tmp 36) (.tmp 41) 33 rfl Try.ulS Try.infoS rfl (by decide) (hone.drewN _) rfl #[.string x] rfl rfl (by simp [Value.oneCell']) (by unfold maxLen; omega) (by omega) ?_; intro a3 c3 w3 h3)
          go_roundw
          case rel => exact ⟨i + 1, j, by omega, by omega, by go_num, rfl, _, _, _, by rw [show i + 1 + j = i + j + 1 by omega], by rw [strsC_append, show i + 1 + j = i + j + 1 by omega]; exact h3, HX⟩
          case measure => simp [intOf]; omega
      · obtain rfl : j = m := by omega
        have HA : Hid (∀ w', Below w.heap.size w w' → CellsAt w' (Option.map (fun x => x.add i) a) (strsC (xs.drop i))) := Lib.hid (fun w' hb => by
          have h := (h1.below hb).from_ n c i 1 (by decide) (by rw [strsC_len, HN.out]; omega) hnc
          rw [if_neg (by omega), Nat.mul_one, strsC_drop] at h
          exact h)
        have HD := Lib.hid (HI.out.done HXS.out HYS.out (.inr (by rw [← HM.out]; exact Nat.le_refl _)))
        clear HI
        go_wp2_with (first
          | (at_builtin; refine wpList_append_src rfl (.tmp 45) (.tmp 48) 33 rfl Try.ulS Try.infoS rfl (by decide) hone rfl _ _ _ rfl (strsC (xs.drop i)) (by rw [strsC_len, List.length_drop, ← HN.out]; omega) (HA.out _ hone.below) (strsC_one _) (by unfold maxLen; omega) (by omega) ?_; intro a3 c3 w3 h3)
          | (at_builtin; refine wpList_append_src rfl (.tmp 50) (.tmp 53) 33 rfl Try.ulS Try.infoS rfl (by decide) h3 rfl _ _ _ rfl (strsC []) (by simp [strsC]) (cellsAt_nil _ _) (strsC_one _) (by unfold maxLen; omega) (by omega) ?_; intro a4 c4 w4 h4))
        all_goals go_ret
        all_goals refine ⟨_, _, _, rfl, _, ?_, HD.out⟩
        all_goals rw [strsC_append, strsC_append, show ys.drop j = [] from List.drop_of_length_le (by rw [← HM.out]; exact Nat.le_refl _)]
        all_goals exact h4
    · obtain rfl : i = n := by omega
      have HD := Lib.hid (HI.out.done HXS.out HYS.out (.inl (by rw [← HN.out]; exact Nat.le_refl _)))
      clear HI
      by_cases hjm : j < m
      · have hdj : ¬ d = j := by omega
        have HA : Hid (∀ w', Below w.heap.size w w' → CellsAt w' (Option.map (fun x => x.add j) b) (strsC (ys.drop j))) := Lib.hid (fun w' hb => by
          have h := (h2.below hb).from_ m d j 1 (by decide) (by rw [strsC_len, HM.out]; omega) hmd
          rw [if_neg (by omega), Nat.mul_one, strsC_drop] at h
          exact h)
        go_wp2_with (first
          | (at_builtin; refine wpList_append_src rfl (.tmp 45) (.tmp 48) 33 rfl Try.ulS Try.infoS rfl (by decide) hone rfl _ _ _ rfl (strsC []) (by simp [strsC]) (cellsAt_nil _ _) (strsC_one _) (by unfold maxLen; omega) (by omega) ?_; intro a3 c3 w3 h3)
          | (at_builtin; refine wpList_append_src rfl (.tmp 50) (.tmp 53) 33 rfl Try.ulS Try.infoS rfl (by decide) h3 rfl _ _ _ rfl (strsC (ys.drop j)) (by rw [strsC_len, List.length_drop, ← HM.out]; omega) (HA.out _ h3.below) (strsC_one _) (by unfold maxLen; omega) (by omega) ?_; intro a4 c4 w4 h4))
        all_goals go_ret
        all_goals refine ⟨_, _, _, rfl, _, ?_, HD.out⟩
        all_goals rw [strsC_append, strsC_append, show xs.drop i = [] from List.drop_of_length_le (by rw [← HN.out]; exact Nat.le_refl _)]
        all_goals exact h4
      · obtain rfl : j = m := by omega
        go_wp2_with (first
          | (at_builtin; refine wpList_append_src rfl (.tmp 45) (.tmp 48) 33 rfl Try.ulS Try.infoS rfl (by decide) hone rfl _ _ _ rfl (strsC []) (by simp [strsC]) (cellsAt_nil _ _) (strsC_one _) (by unfold maxLen; omega) (by omega) ?_; intro a3 c3 w3 h3)
          | (at_builtin; refine wpList_append_src rfl (.tmp 50) (.tmp 53) 33 rfl Try.ulS Try.infoS rfl (by decide) h3 rfl _ _ _ rfl (strsC []) (by simp [strsC]) (cellsAt_nil _ _) (strsC_one _) (by unfold maxLen; omega) (by omega) ?_; intro a4 c4 w4 h4))
        all_goals go_ret
        all_goals refine ⟨_, _, _, rfl, _, ?_, HD.out⟩
        all_goals rw [strsC_append, strsC_append, show xs.drop i = [] from List.drop_of_length_le (by rw [← HN.out]; exact Nat.le_refl _), show ys.drop j = [] from List.drop_of_length_le (by rw [← HM.out]; exact Nat.le_refl _)]
        all_goals exact h4

theorem sorted_short {xs : List ByteArray} (h : xs.length < 2) : SortedB xs := by
  match xs, h with
  | [], _ => exact List.Pairwise.nil
  | [x], _ => simp [SortedB]

set_option maxHeartbeats 2000000 in
theorem sortedTexts_any (N : Nat) : ∀ (xs : List ByteArray) (a : Option Addr) (n c : Nat) (w : World), n ≤ N → n = xs.length → n ≤ c → n ≤ 1048576 → CellsAt w a (strsC xs) →
    Calls Try.prog 53 #[.slice a n c] w fun e w' => ∃ a' n' c' zs, e = .returned (.slice a' n' c') ∧ One w w.heap.size w' 9 1 a' n' c' (strsC zs) ∧ zs.Perm xs ∧ SortedB zs := by
  induction N with
  | zero =>
    intro xs a n c w hN hn hnc hn9 hat
    obtain rfl : n = 0 := by omega
    have hx : xs = [] := List.length_eq_zero_iff.1 hn.symm
    subst hx
    clear hn hN hn9 hnc hat
    go_enter Try.func53, Try.ntmps53
    go_wp2_with (at_builtin; refine wpList_append_src rfl (.tmp 9) (.tmp 10) 33 rfl Try.ulS Try.infoS rfl (by decide) (One.empty w _ _) rfl _ _ _ rfl (strsC []) (by simp [strsC]) (cellsAt_nil _ _) (strsC_one _) (by unfold maxLen; omega) (by omega) ?_; intro a3 c3 w3 h3)
    go_ret
    exact ⟨_, _, _, [], rfl, h3, List.Perm.refl _, List.Pairwise.nil⟩
  | succ N ih =>
    intro xs a n c w hN hn hnc hn9 hat
    have HN := Lib.hid hn
    clear hn
    by_cases h2 : n < 2
    · have hat2 := hat.below ((Below.refl w.heap.size w).alloc (Nat.le_refl _) (.cells #[] 9))
      have HS := Lib.hid (sorted_short (xs := xs) (by rw [← HN.out]; exact h2))
      clear ih hat
      go_enter Try.func53, Try.ntmps53
      go_wp2_with (at_builtin; refine wpList_append_src rfl (.tmp 9) (.tmp 10) 33 rfl Try.ulS Try.infoS rfl (by decide) (One.empty w _ _) rfl _ _ _ rfl (strsC xs) (by rw [strsC_len, ← HN.out]; omega) hat2 (strsC_one _) (by unfold maxLen; omega) (by omega) ?_; intro a3 c3 w3 h3)
      go_ret
      exact ⟨_, _, _, xs, rfl, by simpa using h3, List.Perm.refl _, HS.out⟩
    · obtain ⟨h, hh⟩ : ∃ h, n / 2 = h := ⟨_, rfl⟩
      have hh1 : 0 < h := by omega
      have hh2 : h < n := by omega
      have e1 : (n : Int).tdiv 2 = h := by rw [← hh]; exact (Int.ofNat_tdiv n 2).symm
      have hA1 : CellsAt w a (strsC (xs.take h)) := by rw [← strsC_takeE]; exact hat.upTo h
      have hA2 : CellsAt w (Option.map (fun x => x.add h) a) (strsC (xs.drop h)) := by
        have h0 := hat.from_ n c h 1 (by decide) (by rw [strsC_len, HN.out]; omega) hnc
        rw [if_neg (by omega), Nat.mul_one, strsC_drop] at h0
        exact h0
      have hl1 : h = (xs.take h).length := by rw [List.length_take, ← HN.out]; omega
      have hl2 : n - h = (xs.drop h).length := by rw [List.length_drop, ← HN.out]
      have c1 := ih (xs.take h) a h c w (by omega) hl1 (by omega) (by omega) hA1
      have c2 := fun w' (hb : Below w.heap.size w w') => ih (xs.drop h) (Option.map (fun x => x.add h) a) (n - h) (c - h) w' (by omega) hl2 (by omega) (by omega) (hA2.below hb)
      have HC2 : Hid (∀ w', Below w.heap.size w w' → Calls Try.prog 53 #[.slice (Option.map (fun x => x.add h) a) (n - h) (c - h)] w' fun e w'' => ∃ a' n' c' zs, e = .returned (.slice a' n' c') ∧ One w' w'.heap.size w'' 9 1 a' n' c' (strsC zs) ∧ zs.Perm (xs.drop h) ∧ SortedB zs) := Lib.hid c2
      have HL1 := Lib.hid hl1
      have HL2 := Lib.hid hl2
      clear ih hh hA1 hA2 hl1 hl2 c2 hat
      go_enter Try.func53, Try.ntmps53
      go_wp2_with fail
      refine c1.mono ?_
      rintro e w1 ⟨a1, n1, c1, z1, rfl, o1, p1, q1⟩
      have P1 := Lib.hid p1
      have Q1 := Lib.hid q1
      clear p1 q1
      go_wp2_with fail
      refine (HC2.out _ o1.below).mono ?_
      rintro e w2 ⟨a2, n2, c2, z2, rfl, o2, p2, q2⟩
      have o12 := o1.later o2.below
      have hz1 : n1 = z1.length := by have := o1.len; rw [strsC_len] at this; omega
      have hz2 : n2 = z2.length := by have := o2.len; rw [strsC_len] at this; omega
      have hlp1 := P1.out.length_eq
      have hlp2 := p2.length_eq
      have hsum : n1 + n2 ≤ 1048576 := by have := HL1.out; have := HL2.out; omega
      have P2 := Lib.hid p2
      have Q2 := Lib.hid q2
      have HZ1 := Lib.hid hz1
      have HZ2 := Lib.hid hz2
      clear p2 q2 hz1 hz2 hlp1 hlp2
      go_wp2_with fail
      refine (mergedTexts_any z1 z2 _ _ _ _ _ _ _ HZ1.out HZ2.out o12.cap.1 o2.cap.1 hsum o12.at_ o2.at_ Q1.out Q2.out).mono ?_
      rintro e w3 ⟨a3, n3, c3, z3, rfl, o3, p3, q3⟩
      have P3 := Lib.hid (show z3.Perm xs from p3.trans (by
        have h := P1.out.append P2.out
        rwa [List.take_append_drop] at h))
      have Q3 := Lib.hid q3
      clear p3 q3
      have hfin : One w w.heap.size w3 9 1 a3 n3 c3 (strsC z3) := o3.under o12.below o12.base
      go_wp2
      go_ret
      exact ⟨_, _, _, z3, rfl, hfin, P3.out, Q3.out⟩

end Go.Proofs.Ytdcdminjoehiiaa
