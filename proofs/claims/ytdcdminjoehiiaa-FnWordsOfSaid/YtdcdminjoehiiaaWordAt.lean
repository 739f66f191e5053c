/-
  The contracts of the functions WordAt (the program's and the model's): the index of the word that has a place, or -1; nothing that was there is written. Condition: the text has at most 2^20 bytes.
-/
import Derived.Test.YtdcdminjoehiiaaTexts
namespace Go.Proofs.Ytdcdminjoehiiaa
open Go.RowKit

theorem implWordAt_no (s : ByteArray) (z : Int) (w : World) (_hs : s.size ≤ 1048576) (hz : -9223372036854775808 ≤ z ∧ z ≤ 9223372036854775807) (h : z < 0 ∨ (s.data.toList.length : Int) ≤ z ∨ gapB (at0 s.data.toList z.toNat) = true) :
    Calls Try.prog 30 #[.string s, .int .i64 z] w fun e w' => e = .returned (.int .i64 (-1)) ∧ w = w' := by
  have hsz : s.data.toList.length = s.size := rfl
  rw [hsz] at h
  by_cases h1 : z < 0
  · clear h hz
    go_enter Try.func30, Try.ntmps30
    go_wp2
    go_ret
    exact ⟨rfl, rfl⟩
  · by_cases h2 : (s.size : Int) ≤ z
    · clear h hz
      go_enter Try.func30, Try.ntmps30
      go_wp2
      go_ret
      exact ⟨rfl, rfl⟩
    · obtain ⟨k, rfl⟩ : ∃ k : Nat, z = k := ⟨z.toNat, by omega⟩
      have hlt : k < s.size := by omega
      have hg : gapB (at0 s.data.toList k) = true := by
        rcases h with h | h | h
        · omega
        · omega
        · exact h
      have HG := Lib.hid (show gapB s[k] = true by rw [← at0_get s k hlt]; exact hg)
      have hb : (s[k].toNat : Int) ≤ 255 := by have := s[k].toNat_lt; omega
      clear h h1 h2 hz hg hsz
      go_enter Try.func30, Try.ntmps30
      go_wp2_with (go_at_call 46; refine (isGapByte_is _ _ _ HG.out).mono ?_; rintro e1 w1 ⟨rfl, rfl⟩)
      go_ret
      exact ⟨rfl, rfl⟩

theorem implWordAt_yes (s : ByteArray) (k j : Nat) (w : World) (hs : s.size ≤ 1048576) (hk : k < s.size) (hg : gapB (at0 s.data.toList k) = false) (hj : (wordsTo s.data.toList (k + 1)).length = j + 1) :
    Calls Try.prog 30 #[.string s, .int .i64 k] w fun e w' => e = .returned (.int .i64 j) ∧ w = w' := by
  have HG := Lib.hid (show gapB s[k] = false by rw [← at0_get s k hk]; exact hg)
  have hb : (s[k].toNat : Int) ≤ 255 := by have := s[k].toNat_lt; omega
  have HJ := Lib.hid hj
  have t1 : decide ((k : Int) < 0) = false := by simp
  have t2 : decide (s.size ≤ k) = false := by simp; omega
  clear hg hj
  go_enter Try.func30, Try.ntmps30
  go_wp2_with (go_at_call 46; refine (isGapByte_is _ _ _ HG.out).mono ?_; rintro e1 w1 ⟨rfl, rfl⟩)
  go_loop [5, 6] (fun v i => ∃ m n : Nat, m ≤ k + 1 ∧ i = .int .i64 m ∧ v = .int .i64 ((n : Int) - 1) ∧ n ≤ m ∧ Hid ((wordsTo s.data.toList m).length = n)) (fun _ i => k + 1 - (intOf i).toNat)
  case atStart => exact ⟨0, 0, by omega, rfl, rfl, Nat.le_refl _, Lib.hid rfl⟩
  case round =>
    obtain ⟨m, n, hm, rfl, rfl, hn, HN⟩ := hrel
    by_cases hle : m ≤ k
    · have hms : m < s.size := by omega
      by_cases hbg : begB s.data.toList m = true
      · have HX := Lib.hid (show (wordsTo s.data.toList (m + 1)).length = n + 1 by rw [wordsTo_beg hbg, List.length_append, HN.out]; rfl)
        have HB := Lib.hid hbg
        clear hbg
        have e1 : IntKind.i64.wrap ((n : Int) - 1 + 1) = ((n + 1 : Nat) : Int) - 1 := by rw [IntWalk.i64_in _ (by omega)]; omega
        go_wp2_with fail
        refine (wordBegins_is _ _ _ _ hms hs HB.out).mono ?_
        rintro e1 w1 ⟨rfl, rfl⟩
        go_wp2
        go_round
        case rel => exact ⟨m + 1, n + 1, by omega, by go_num, by first | rfl | (congr 1; omega), by omega, HX⟩
        case measure => simp [intOf] <;> omega
      · have hbg' : begB s.data.toList m = false := by simpa using hbg
        have HX := Lib.hid (show (wordsTo s.data.toList (m + 1)).length = n by rw [wordsTo_no hbg', HN.out])
        have HB := Lib.hid hbg'
        clear hbg hbg'
        go_wp2_with fail
        refine (wordBegins_is _ _ _ _ hms hs HB.out).mono ?_
        rintro e1 w1 ⟨rfl, rfl⟩
        go_wp2
        go_round
        case rel => exact ⟨m + 1, n, by omega, by go_num, rfl, by omega, HX⟩
        case measure => simp [intOf] <;> omega
    · obtain rfl : m = k + 1 := by omega
      have hjn : n = j + 1 := by have := HJ.out; have := HN.out; omega
      have e2 : ((n : Int) - 1) = j := by omega
      go_wp2
      go_ret
      exact ⟨ret_int (by omega), rfl⟩

theorem wordsB_len (s : ByteArray) : (wordsB s).length = (wordsL s.data.toList).length := by simp [wordsB]
theorem wordsB_get (s : ByteArray) (k : Nat) (h : k < (wordsB s).length) : (wordsB s)[k].fr = (((wordsL s.data.toList).getD k (0, 0)).1 : Int) ∧ (wordsB s)[k].to = (((wordsL s.data.toList).getD k (0, 0)).2 : Int) := by
  have h' : k < (wordsL s.data.toList).length := by rw [← wordsB_len]; exact h
  simp [wordsB, wordM, List.getD, List.getElem?_eq_getElem h']

theorem one_words {W : World} {B : Nat} {w : World} {e : TypeId} {a : Option Addr} {n c : Nat} {l : List WordM} (h : One W B w e 3 a n c (wordsC l)) : n = l.length := by
  have h1 := h.len
  rw [wordsC, flat_len wordC 3 wordC_len] at h1
  omega

theorem wordsL_room (s : ByteArray) (k : Nat) (h : k < (wordsL s.data.toList).length) : ((wordsL s.data.toList).getD k (0, 0)).1 ≤ s.size ∧ ((wordsL s.data.toList).getD k (0, 0)).2 ≤ s.size ∧ (wordsL s.data.toList).length ≤ s.size := by
  have h1 := wordsL_all s.data.toList ((wordsL s.data.toList)[k]) (List.getElem_mem h)
  have h2 := wordsTo_len s.data.toList s.data.toList.length
  have hsz : s.data.toList.length = s.size := rfl
  simp only [List.getD, List.getElem?_eq_getElem h, Option.getD_some]
  rw [hsz] at h1
  exact ⟨by omega, by omega, h2⟩

set_option maxHeartbeats 2000000 in
/-- The model goes through all words; 'j' is the first one that has the place, or there is none and j is their number. -/
theorem specWordAt_any (s : ByteArray) (z r : Int) (j : Nat) (w : World) (hs : s.size ≤ 1048576)
    (hno : ∀ i, i < j → ¬ ((((wordsL s.data.toList).getD i (0, 0)).1 : Int) ≤ z ∧ z < ((wordsL s.data.toList).getD i (0, 0)).2))
    (hj : (j = (wordsL s.data.toList).length ∧ r = -1) ∨ (j < (wordsL s.data.toList).length ∧ r = j ∧ (((wordsL s.data.toList).getD j (0, 0)).1 : Int) ≤ z ∧ z < ((wordsL s.data.toList).getD j (0, 0)).2)) :
    Calls Try.prog 32 #[.string s, .int .i64 z] w fun e w' => e = .returned (.int .i64 r) ∧ Below w.heap.size w w' := by
  have HNO := Lib.hid hno
  have HJ := Lib.hid hj
  clear hno hj
  go_enter Try.func32, Try.ntmps32
  go_wp2_with fail
  refine (specWordsOf_any _ _ hs).mono ?_
  rintro e w1 ⟨a, n, c, rfl, hone⟩
  have hn := one_words hone
  rw [wordsB_len] at hn
  have HN := Lib.hid hn
  have hat := cellsAt_own hone.own
  have hbel := hone.below
  have hjn : j ≤ n := by rcases HJ.out with ⟨h1, _⟩ | ⟨h1, _⟩ <;> omega
  have hn9 : n ≤ 1048576 := by
    have h2 := wordsTo_len s.data.toList s.data.toList.length
    have hsz : s.data.toList.length = s.size := rfl
    have : (wordsL s.data.toList).length ≤ s.size := h2
    omega
  clear hn hone
  go_wp2
  go_loop [6] (fun i => ∃ k : Nat, k ≤ j ∧ i = .int .i64 k) (fun i => n - (intOf i).toNat)
  case atStart => exact ⟨0, Nat.zero_le _, rfl⟩
  case round =>
    obtain ⟨k, hk, rfl⟩ := hrel
    by_cases hlt : k < n
    · have hkl : k < (wordsB s).length := by rw [wordsB_len, ← HN.out]; exact hlt
      obtain ⟨b, o, rfl, _, hc⟩ := hat.word (fun e => by rw [e] at hkl; simp at hkl)
      obtain ⟨_, g1, g2⟩ := hc k hkl
      have hw := wordsB_get s k hkl
      have hr := wordsL_room s k (by rw [← wordsB_len]; exact hkl)
      obtain ⟨x, hx⟩ : ∃ x, ((wordsL s.data.toList).getD k (0, 0)).1 = x := ⟨_, rfl⟩
      obtain ⟨y, hy⟩ : ∃ y, ((wordsL s.data.toList).getD k (0, 0)).2 = y := ⟨_, rfl⟩
      rw [hw.1, hx] at g1
      rw [hw.2, hy] at g2
      obtain ⟨hr1, hr2, _⟩ := hr
      rw [hx] at hr1
      rw [hy] at hr2
      have HXY := Lib.hid (And.intro hx hy)
      clear hc hw hx hy
      by_cases hkj : k = j
      · subst hkj
        have hin : (x : Int) ≤ z ∧ z < y ∧ r = k := by
          rcases HJ.out with ⟨h1, _⟩ | ⟨_, h2, h3, h4⟩
          · have := HN.out; omega
          · rw [HXY.out.1] at h3; rw [HXY.out.2] at h4; exact ⟨h3, h4, h2⟩
        obtain ⟨i1, i2, i3⟩ := hin
        have HR := Lib.hid i3
        clear i3
        go_wp2
        go_ret
        exact ⟨ret_int (by rw [HR.out]), hbel⟩
      · have hout := HNO.out k (by omega)
        rw [HXY.out.1, HXY.out.2] at hout
        by_cases hx1 : (x : Int) ≤ z
        · have hy1 : ¬ z < (y : Int) := fun h => hout ⟨hx1, h⟩
          clear hout
          go_wp2
          go_round
          case rel => exact ⟨k + 1, by omega, by go_num⟩
          case measure => simp [intOf]; omega
        · clear hout
          go_wp2
          go_round
          case rel => exact ⟨k + 1, by omega, by go_num⟩
          case measure => simp [intOf]; omega
    · have hr : r = -1 := by
        rcases HJ.out with ⟨_, h2⟩ | ⟨h1, _⟩
        · exact h2
        · have := HN.out; omega
      have HR := Lib.hid hr
      clear hr
      go_wp2
      go_ret
      exact ⟨ret_int (by rw [HR.out]), hbel⟩

end Go.Proofs.Ytdcdminjoehiiaa
