/-
  The walks of chapter 2's exact laws: each returns true, and nothing that was there is written. No conditions.
-/
import Derived.Test.YtgbmmdcelonahaaHelpWord
import Derived.Test.YtgbmmdcelonahaaHelpSpan
import Derived.Test.YtgbmmdcelonahaaWordAt
import Derived.OpenShut
namespace Go.Proofs.Ytgbmmdcelonahaa
open Go.RowKit

theorem wordsB_room (s : ByteArray) : (wordsB s).length ≤ s.size := by
  rw [wordsB_len]; exact wordsTo_len s.data.toList s.data.toList.length
theorem sentB_room (s : ByteArray) : (sentB s).length ≤ s.size := by
  rw [sentB, List.length_map, sentL, List.length_append]; exact stN_room s.data.toList s.data.toList.length

set_option maxHeartbeats 4000000 in
theorem walkFnExactWordsOf (a0 : ByteArray) (_w0 : a0.size ≤ maxLen) (w : World) :
    Calls Try.prog 3 #[.string a0] w fun e w' => e = .returned (.bool true) ∧ Below w.heap.size w w' := by
  by_cases hs : a0.size ≤ 1048576
  · have c1 := fun w => specWordsOf_any a0 w hs
    have c2 := fun w => implWordsOf_any a0 w hs
    have hlen : (wordsB a0).length ≤ 1048576 := by exact Nat.le_trans (wordsB_room a0) hs
    obtain ⟨l, hl⟩ : ∃ l, wordsB a0 = l := ⟨_, rfl⟩
    rw [hl] at hlen
    simp only [hl] at c1 c2
    clear hl
    go_enter Try.func3, Try.ntmps3
    go_wp2_with fail
    refine (c1 _).mono ?_
    rintro e w1 ⟨a, n, c, rfl, o1⟩
    have hn : n = l.length := by have h := o1.len; rw [wordsC, flat_len wordC 3 lenWord] at h; omega
    have hn9 : n ≤ 1048576 := by omega
    have HN := Lib.hid hn
    clear hn hlen
    go_wp2_with fail
    refine (c2 _).mono ?_
    rintro e w2 ⟨a2, n2, c3, rfl, o2⟩
    obtain rfl : n2 = n := by have h := o2.len; have h2 := HN.out; rw [wordsC, flat_len wordC 3 lenWord] at h; omega
    have o12 := o1.later o2.below
    go_wp2_with fail
    refine (eqWordS_same _ _ _ _ _ l _ HN.out (by omega) o2.at_ o12.at_).mono ?_
    rintro e w3 ⟨rfl, b3⟩
    have o13 := o12.later b3
    have o23 := o2.later b3
    clear o12 o2 b3
    go_wp2_with fail
    refine (markWordS_any _ _ _ _ l 1 _ o23.own (by omega) (by omega) (by omega)).mono ?_
    rintro e w4 ⟨rfl, o24, hg4⟩
    have o14 := o13.kept o1.own o23.own (Nat.le_refl _) o1.base hg4
    clear o13 o23 hg4 o1
    go_wp2_with fail
    refine (heldWordS_any _ _ _ 1 _ (cellsAt_own o24) (by omega) (by omega) (by omega)).mono ?_
    rintro e w5 ⟨rfl, b5⟩
    have o15 := o14.later b5
    have o25 := ownsRow_below o24 b5
    clear o14 o24 b5
    have t1 : ¬ ((1 + n2 * 3 : Nat) : Int) < 0 := by omega
    go_wp2_with fail
    refine (c2 _).mono ?_
    rintro e w6 ⟨a3, n3, c5, rfl, o3⟩
    obtain rfl : n3 = n2 := by have h := o3.len; have h2 := HN.out; rw [wordsC, flat_len wordC 3 lenWord] at h; omega
    have o16 := o15.later o3.below
    have o26 := ownsRow_below o25 o3.below
    clear o15 o25
    go_wp2_with fail
    refine (eqWordS_same _ _ _ _ _ l _ HN.out (by omega) o3.at_ o16.at_).mono ?_
    rintro e w7 ⟨rfl, b7⟩
    have o17 := o16.later b7
    have o27 := ownsRow_below o26 b7
    clear o16 o26 o3 b7
    go_wp2_with fail
    refine (heldWordS_any _ _ _ 1 _ (cellsAt_own o27) (by omega) (by omega) (by omega)).mono ?_
    rintro e w8 ⟨rfl, b8⟩
    have hb := (o17.later b8).below
    clear o17 o27 b8
    go_wp2
    go_ret
    exact ⟨rfl, hb⟩
  · have h2 : (1048576 : Int) < (a0.size : Int) := by omega
    go_enter Try.func3, Try.ntmps3
    go_wp2
    go_ret
    exact ⟨rfl, Below.refl _ _⟩

set_option maxHeartbeats 4000000 in
theorem walkFnExactSentencesOf (a0 : ByteArray) (_w0 : a0.size ≤ maxLen) (w : World) :
    Calls Try.prog 6 #[.string a0] w fun e w' => e = .returned (.bool true) ∧ Below w.heap.size w w' := by
  by_cases hs : a0.size ≤ 1048576
  · have c1 := fun w => specSentencesOf_any a0 w hs
    have c2 := fun w => implSentencesOf_any a0 w hs
    have hlen : (sentB a0).length ≤ 1048576 := by exact Nat.le_trans (sentB_room a0) hs
    obtain ⟨l, hl⟩ : ∃ l, sentB a0 = l := ⟨_, rfl⟩
    rw [hl] at hlen
    simp only [hl] at c1 c2
    clear hl
    go_enter Try.func6, Try.ntmps6
    go_wp2_with fail
    refine (c1 _).mono ?_
    rintro e w1 ⟨a, n, c, rfl, o1⟩
    have hn : n = l.length := by have h := o1.len; rw [spansC, flat_len spanC 2 lenSpan] at h; omega
    have hn9 : n ≤ 1048576 := by omega
    have HN := Lib.hid hn
    clear hn hlen
    go_wp2_with fail
    refine (c2 _).mono ?_
    rintro e w2 ⟨a2, n2, c3, rfl, o2⟩
    obtain rfl : n2 = n := by have h := o2.len; have h2 := HN.out; rw [spansC, flat_len spanC 2 lenSpan] at h; omega
    have o12 := o1.later o2.below
    go_wp2_with fail
    refine (eqSpanS_same _ _ _ _ _ l _ HN.out (by omega) o2.at_ o12.at_).mono ?_
    rintro e w3 ⟨rfl, b3⟩
    have o13 := o12.later b3
    have o23 := o2.later b3
    clear o12 o2 b3
    go_wp2_with fail
    refine (markSpanS_any _ _ _ _ l 1 _ o23.own (by omega) (by omega) (by omega)).mono ?_
    rintro e w4 ⟨rfl, o24, hg4⟩
    have o14 := o13.kept o1.own o23.own (Nat.le_refl _) o1.base hg4
    clear o13 o23 hg4 o1
    go_wp2_with fail
    refine (heldSpanS_any _ _ _ 1 _ (cellsAt_own o24) (by omega) (by omega) (by omega)).mono ?_
    rintro e w5 ⟨rfl, b5⟩
    have o15 := o14.later b5
    have o25 := ownsRow_below o24 b5
    clear o14 o24 b5
    have t1 : ¬ ((1 + n2 * 2 : Nat) : Int) < 0 := by omega
    go_wp2_with fail
    refine (c2 _).mono ?_
    rintro e w6 ⟨a3, n3, c5, rfl, o3⟩
    obtain rfl : n3 = n2 := by have h := o3.len; have h2 := HN.out; rw [spansC, flat_len spanC 2 lenSpan] at h; omega
    have o16 := o15.later o3.below
    have o26 := ownsRow_below o25 o3.below
    clear o15 o25
    go_wp2_with fail
    refine (eqSpanS_same _ _ _ _ _ l _ HN.out (by omega) o3.at_ o16.at_).mono ?_
    rintro e w7 ⟨rfl, b7⟩
    have o17 := o16.later b7
    have o27 := ownsRow_below o26 b7
    clear o16 o26 o3 b7
    go_wp2_with fail
    refine (heldSpanS_any _ _ _ 1 _ (cellsAt_own o27) (by omega) (by omega) (by omega)).mono ?_
    rintro e w8 ⟨rfl, b8⟩
    have hb := (o17.later b8).below
    clear o17 o27 b8
    go_wp2
    go_ret
    exact ⟨rfl, hb⟩
  · have h2 : (1048576 : Int) < (a0.size : Int) := by omega
    go_enter Try.func6, Try.ntmps6
    go_wp2
    go_ret
    exact ⟨rfl, Below.refl _ _⟩

theorem walkFnExactWordAt (a0 : ByteArray) (a1 : Int) (_w0 : a0.size ≤ maxLen) (_w1 : (Lit.int .i64 a1).wf = true) (w : World) :
    Calls Try.prog 7 #[.string a0, .int .i64 a1] w fun e w' => e = .returned (.bool true) ∧ Below w.heap.size w w' := by
  by_cases hs : a0.size ≤ 1048576
  · have hz := bounds_i64 _w1
    have hc : ∃ r : Int, (∀ w, Calls Try.prog 30 #[.string a0, .int .i64 a1] w fun e w' => e = .returned (.int .i64 r) ∧ Below w.heap.size w w') ∧
        (∀ w, Calls Try.prog 31 #[.string a0, .int .i64 a1] w fun e w' => e = .returned (.int .i64 r) ∧ w = w') := by
      by_cases h : a1 < 0 ∨ (a0.data.toList.length : Int) ≤ a1 ∨ gapB (at0 a0.data.toList a1.toNat) = true
      · refine ⟨-1, fun w => specWordAt_any a0 a1 (-1) _ w hs (fun i hi => ?_) (.inl ⟨rfl, rfl⟩), fun w => implWordAt_no a0 a1 w hs hz h⟩
        have hm := wordAt_no a0.data.toList a1 h ((wordsL a0.data.toList)[i]) (List.getElem_mem hi)
        simpa [List.getD, List.getElem?_eq_getElem hi] using hm
      · obtain ⟨k, rfl⟩ : ∃ k : Nat, a1 = k := ⟨a1.toNat, by omega⟩
        have hk : k < a0.data.toList.length := by omega
        have hg : gapB (at0 a0.data.toList k) = false := by
          cases hg : gapB (at0 a0.data.toList k) with
          | false => rfl
          | true => exact absurd (.inr (.inr hg)) h
        obtain ⟨j, h1, h2, h3, h4, h5⟩ := wordAt_yes a0.data.toList k hk hg
        exact ⟨j, fun w => specWordAt_any a0 k j j w hs (fun i hi h => by have := h5 i hi; omega) (.inr ⟨h2, rfl, by omega, by omega⟩), fun w => implWordAt_yes a0 k j w hs hk hg h1⟩
    obtain ⟨r, c1, c2⟩ := hc
    go_enter Try.func7, Try.ntmps7
    go_wp2_with fail
    refine (c1 _).mono ?_
    rintro e w1 ⟨rfl, hb1⟩
    go_wp2_with fail
    refine (c2 _).mono ?_
    rintro e w2 ⟨rfl, rfl⟩
    go_wp2
    go_ret
    exact ⟨rfl, hb1⟩
  · have h2 : (1048576 : Int) < (a0.size : Int) := by omega
    go_enter Try.func7, Try.ntmps7
    go_wp2
    go_ret
    exact ⟨rfl, Below.refl _ _⟩

end Go.Proofs.Ytgbmmdcelonahaa
