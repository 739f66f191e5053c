/-
  The walk of chapter 2's law SentencesOf over drawn texts: it returns true, and nothing that was there is written. No conditions.
-/
import Derived.Test.YtdcdminjoehiiaaLawsTK
import Derived.Test.YtdcdminjoehiiaaMathSent
namespace Go.Proofs.Ytdcdminjoehiiaa
open Go.RowKit

/-- The words of each sentence by their numbers. -/
theorem sent_facts (s : ByteArray) (L : List (Int × Int)) (W : List WordM) (hL : sentB s = L) (hW : wordsB s = W) :
    ∃ h : Nat → Nat, h 0 = 0 ∧ h L.length = W.length ∧ ∀ k (hk : k < L.length), ∃ f e : Nat, L[k] = ((f : Int), (e : Int)) ∧ f ≤ s.size ∧ e ≤ s.size ∧ h k < h (k + 1) ∧ h (k + 1) ≤ W.length ∧
      (∀ i (hi : i < W.length), h k ≤ i → ∃ (x : ByteArray) (u v : Nat), W[i] = ⟨x, u, v⟩ ∧ u ≤ s.size ∧ v ≤ s.size ∧ (v ≤ e ↔ i < h (k + 1)) ∧ f ≤ u) ∧
      (∀ hh : k + 1 < L.length, (e : Int) < (L[k + 1]).1) := by
  subst hL hW
  have e1 : (sentB s).length = (sentL s.data.toList).length := by simp [sentB]
  have hsz : s.data.toList.length = s.size := rfl
  refine ⟨headW s.data.toList, rfl, by rw [e1, wordsB_length]; exact head_all _, fun k hk => ?_⟩
  have hk2 : k < (sentL s.data.toList).length := by rw [← e1]; exact hk
  obtain ⟨h1, h2, h3, h4⟩ := head_step s.data.toList k hk2
  have hs := sent_end s.data.toList _ (List.getElem_mem hk2)
  refine ⟨((sentL s.data.toList)[k]).1, ((sentL s.data.toList)[k]).2, by simp [sentB, spanM], by omega, by omega, h1, by rw [wordsB_length]; exact h2, fun i hi hle => ?_, fun hh => ?_⟩
  · have hi2 : i < (wordsL s.data.toList).length := by rw [← wordsB_length]; exact hi
    obtain ⟨h5, h6⟩ := h3 i hi2 hle
    have hw := wordsL_all s.data.toList _ (List.getElem_mem hi2)
    refine ⟨alikeB (s.extract ((wordsL s.data.toList)[i]).1 ((wordsL s.data.toList)[i]).2), ((wordsL s.data.toList)[i]).1, ((wordsL s.data.toList)[i]).2, ?_, by omega, by omega, h5, h6⟩
    simp only [wordsB, List.getElem_map, wordM]
  · have hk3 : k + 1 < (sentL s.data.toList).length := by rw [← e1]; exact hh
    have h5 := h4 hk3
    have e2 : ((sentB s)[k + 1]).1 = (((sentL s.data.toList)[k + 1]).1 : Int) := by simp [sentB, spanM]
    rw [e2]
    omega

theorem span_n {W : World} {B : Nat} {w : World} {e : TypeId} {a : Option Addr} {n c : Nat} {l : List (Int × Int)} (h : One W B w e 2 a n c (spansC l)) : n = l.length := by
  have h1 := h.len
  rw [spansC, flat_len spanC 2 (fun _ => rfl)] at h1
  omega

theorem sent_room (s : ByteArray) : (sentB s).length ≤ s.size := by
  rw [sentB, List.length_map, sentL, List.length_append]; exact stN_room s.data.toList s.data.toList.length

set_option maxHeartbeats 8000000 in
theorem walkFnSentencesOf (a : Option Addr) (len cap : Nat) (zs : List Int) (w : World) (h : IsRowK .u8 w a len cap zs) :
    Calls Try.prog 7 #[.slice a len cap] w fun e w' => e = .returned (.bool true) ∧ Below w.heap.size w w' := by
  by_cases hs : len ≤ 1048576
  · go_enter Try.func7, Try.ntmps7
    go_wp2_with fail
    refine (DrawSentencesOf_any _ _ _ _ _ h).mono ?_
    rintro e w1 ⟨t, ht, rfl, b1⟩
    clear h
    have hr := (words_room t).1
    have hr2 := sent_room t
    have c1 := fun w => implSentencesOf_any t w (by omega)
    have c2 := fun w => specSentencesOf_any t w (by omega)
    have c3 := fun w => implWordsOf_any t w (by omega)
    obtain ⟨L, hL⟩ : ∃ L, sentB t = L := ⟨_, rfl⟩
    obtain ⟨W, hW⟩ : ∃ W, wordsB t = W := ⟨_, rfl⟩
    simp only [hL] at c1 c2
    simp only [hW] at c3
    rw [hL] at hr2
    rw [hW] at hr
    obtain ⟨H, hH0, hHL, hF⟩ := sent_facts t L W hL hW
    have HH0 := Lib.hid hH0
    have HHL := Lib.hid hHL
    have HF := Lib.hid hF
    clear hL hW hH0 hHL hF
    go_wp2_with fail
    refine (c1 _).mono ?_
    rintro e w2 ⟨a2, n2, d2, rfl, o2⟩
    have hn2 := span_n o2
    have HN := Lib.hid hn2
    have hn9 : n2 ≤ 1000 := by omega
    have b2 := b1.trans (o2.below.mono b1.size)
    have C2 := cellsAt_own o2.own
    clear b1 hn2 o2
    go_wp2_with fail
    refine (c2 _).mono ?_
    rintro e w3 ⟨a3, n3, d3, rfl, o3⟩
    have hn3 : n3 = n2 := by rw [span_n o3, HN.out]
    subst hn3
    have C3 := C2.below o3.below
    have D3 := cellsAt_own o3.own
    have b3 := b2.trans (o3.below.mono b2.size)
    clear b2 C2 o3
    go_wp2_with fail
    refine (sameSpans_same _ _ _ _ _ _ _ HN.out (by omega) C3 D3).mono ?_
    rintro e w4 ⟨rfl, q, rfl⟩
    have C4 := C3.drewN q
    have b4 := below_drewN' b3 q
    clear C3 D3 b3
    go_wp2_with fail
    refine (c3 _).mono ?_
    rintro e w5 ⟨a4, n4, d4, rfl, o4⟩
    have hn4 := one_words o4
    have HNW := Lib.hid hn4
    have hn49 : n4 ≤ 1000 := by omega
    have C5 := C4.below o4.below
    have E5 := cellsAt_own o4.own
    have b5 := b4.trans (o4.below.mono b4.size)
    clear C4 b4 o4 hn4 c1 c2 c3
    go_wp2
    go_loopw [6, 7, 8] (fun at_ i some wr => ∃ k x : Nat, k ≤ n3 ∧ i = .int .i64 k ∧ at_ = .int .i64 x ∧ x ≤ 1000 ∧ Hid (x = H k) ∧ ∃ q, wr = w5.drewN q) (fun _ i _ _ => n3 - (intOf i).toNat)
    case atStart => exact ⟨0, 0, Nat.zero_le _, rfl, rfl, by omega, Lib.hid HH0.out.symm, 0, rfl⟩
    case round =>
      obtain ⟨k, x, hk, rfl, rfl, hx9, HX, q, rfl⟩ := hrel
      by_cases hlt : k < n3
      · have hkL : k < L.length := by rw [← HN.out]; exact hlt
        obtain ⟨f, e, e1, hf9, he9, hh1, hh2, hI, hnx⟩ := HF.out k hkL
        rw [← HX.out] at hh1 hI
        obtain ⟨y, hy⟩ : ∃ y, H (k + 1) = y := ⟨_, rfl⟩
        rw [hy] at hh1 hh2
        simp only [hy] at hI
        have HX1 := Lib.hid hy.symm
        have HI := Lib.hid hI
        obtain ⟨b1, o1, rfl, _, hcs⟩ := C5.span (fun e => by rw [e] at hkL; simp at hkL)
        obtain ⟨b2, o2, rfl, _, hcw⟩ := E5.word (fun e => by rw [e] at hh2; simp at hh2; omega)
        obtain ⟨s1, s2⟩ := hcs k hkL
        rw [e1] at s1 s2
        dsimp only at s1 s2
        have hW9 : W.length = n4 := HNW.out.symm
        clear hy hI hnx
        by_cases h0 : k = 0
        · subst h0
          rw [Nat.zero_mul, Nat.add_zero] at s1 s2
          clear e1 HF HX C5 E5
          go_wp2
          go_loopw [6, 8] (fun at_ some wr => ∃ i : Nat, ∃ b : Bool, x ≤ i ∧ i ≤ y ∧ at_ = .int .i64 i ∧ some = .bool b ∧ Hid (b = decide (x < i)) ∧ ∃ q, wr = w5.drewN q) (fun at_ _ _ => y - (intOf at_).toNat)
          case atStart => exact ⟨x, false, Nat.le_refl _, by omega, rfl, rfl, Lib.hid (by simp), _, rfl⟩
          case round =>
            obtain ⟨i, b, hxi, hiy, rfl, rfl, HB, q, rfl⟩ := hrel
            by_cases hin : i < y
            · have hiW : i < W.length := by omega
              obtain ⟨u1, u, v, e2, hu, hv, hve, hfu⟩ := HI.out i hiW hxi
              obtain ⟨g1, g2, g3⟩ := hcw i hiW
              rw [e2] at g1 g2 g3
              dsimp only at g1 g2 g3
              have t1 : decide ((v : Int) ≤ (e : Int)) = true := by simp; exact hve.2 hin
              have t2 : decide ((u : Int) < (f : Int)) = false := by simp; omega
              have hin4 : i < n4 := by rw [HNW.out]; exact hiW
              have hve2 : v ≤ e := hve.2 hin
              clear e2 hve hcw hcs
              go_wp2
              go_quiet (fail)
              go_wp2
              go_quiet (fail)
              go_wp2
              go_roundw
              case rel => exact ⟨i + 1, true, by omega, by omega, by go_num, rfl, Lib.hid (by simp; omega), _, rfl⟩
              case measure => simp [intOf]; omega
            · obtain rfl : i = y := by omega
              obtain rfl : b = true := by rw [HB.out]; simp; omega
              by_cases hiW : i < W.length
              · obtain ⟨u1, u, v, e2, hu, hv, hve, hfu⟩ := HI.out i hiW hxi
                obtain ⟨g1, g2, g3⟩ := hcw i hiW
                rw [e2] at g1 g2 g3
                dsimp only at g1 g2 g3
                have hve2 : ¬ v ≤ e := fun h => by have := hve.1 h; omega
                have t1 : decide ((v : Int) ≤ (e : Int)) = false := by simp; omega
                have hin4 : i < n4 := by rw [HNW.out]; exact hiW
                clear e2 hve hcw hcs
                go_wp2
                go_quiet (fail)
                go_wp2
                go_quiet (fail)
                go_wp2
                go_roundw
                case rel => exact ⟨1, i, by omega, by go_num, rfl, by omega, HX1, _, rfl⟩
                case measure => simp [intOf]; omega
              · have hin4 : ¬ i < n4 := by rw [HNW.out]; exact hiW
                clear hcw hcs
                go_wp2
                go_quiet (fail)
                go_wp2
                go_quiet (fail)
                go_wp2
                go_roundw
                case rel => exact ⟨1, i, by omega, by go_num, rfl, by omega, HX1, _, rfl⟩
                case measure => simp [intOf]; omega
        · obtain ⟨j, rfl⟩ : ∃ j, k = j + 1 := ⟨k - 1, by omega⟩
          have hj1 : j < L.length := by omega
          obtain ⟨f', e', e3, hf9', he9', _, _, _, hnx⟩ := HF.out j hj1
          have hnx2 := hnx hkL
          rw [e1] at hnx2
          obtain ⟨p1, p2⟩ := hcs j hj1
          rw [e3] at p1 p2
          dsimp only at p1 p2 hnx2
          have t7 : decide ((f : Int) ≤ (e' : Int)) = false := by simp; omega
          have t0 : (0 : Int) < (j : Int) + 1 := by omega
          have t0' : decide ((0 : Int) < (j : Int) + 1) = true := by simp <;> omega
          have t3 : IntKind.i64.wrap ((j : Int) + 1 - 1) = j := by rw [IntWalk.i64_in _ (by omega)]; omega
          have t4 : (0 : Int) ≤ (j : Int) + 1 := by omega
          have t5 : (j : Int) + 1 < n3 := by omega
          have t6 : ((j : Int) + 1).toNat = j + 1 := by omega
          have t8 : j < n3 := by omega
          clear e1 e3 HF HX C5 E5 hnx
          go_wp2
          go_loopw [6, 8] (fun at_ some wr => ∃ i : Nat, ∃ b : Bool, x ≤ i ∧ i ≤ y ∧ at_ = .int .i64 i ∧ some = .bool b ∧ Hid (b = decide (x < i)) ∧ ∃ q, wr = w5.drewN q) (fun at_ _ _ => y - (intOf at_).toNat)
          case atStart => exact ⟨x, false, Nat.le_refl _, by omega, rfl, rfl, Lib.hid (by simp), _, rfl⟩
          case round =>
            obtain ⟨i, b, hxi, hiy, rfl, rfl, HB, q, rfl⟩ := hrel
            by_cases hin : i < y
            · have hiW : i < W.length := by omega
              obtain ⟨u1, u, v, e2, hu, hv, hve, hfu⟩ := HI.out i hiW hxi
              obtain ⟨g1, g2, g3⟩ := hcw i hiW
              rw [e2] at g1 g2 g3
              dsimp only at g1 g2 g3
              have t1 : decide ((v : Int) ≤ (e : Int)) = true := by simp; exact hve.2 hin
              have t2 : decide ((u : Int) < (f : Int)) = false := by simp; omega
              have hin4 : i < n4 := by rw [HNW.out]; exact hiW
              have hve2 : v ≤ e := hve.2 hin
              clear e2 hve hcw hcs
              go_wp2
              go_quiet (fail)
              go_wp2
              go_quiet (fail)
              go_wp2
              go_roundw
              case rel => exact ⟨i + 1, true, by omega, by omega, by go_num, rfl, Lib.hid (by simp; omega), _, rfl⟩
              case measure => simp [intOf]; omega
            · obtain rfl : i = y := by omega
              obtain rfl : b = true := by rw [HB.out]; simp; omega
              by_cases hiW : i < W.length
              · obtain ⟨u1, u, v, e2, hu, hv, hve, hfu⟩ := HI.out i hiW hxi
                obtain ⟨g1, g2, g3⟩ := hcw i hiW
                rw [e2] at g1 g2 g3
                dsimp only at g1 g2 g3
                have hve2 : ¬ v ≤ e := fun h => by have := hve.1 h; omega
                have t1 : decide ((v : Int) ≤ (e : Int)) = false := by simp; omega
                have hin4 : i < n4 := by rw [HNW.out]; exact hiW
                clear e2 hve hcw hcs
                go_wp2
                go_quiet (fail)
                go_wp2
                go_quiet (fail)
                go_wp2
                go_roundw
                case rel => exact ⟨j + 1 + 1, i, by omega, by go_num, rfl, by omega, HX1, _, rfl⟩
                case measure => simp [intOf]; omega
              · have hin4 : ¬ i < n4 := by rw [HNW.out]; exact hiW
                clear hcw hcs
                go_wp2
                go_quiet (fail)
                go_wp2
                go_quiet (fail)
                go_wp2
                go_roundw
                case rel => exact ⟨j + 1 + 1, i, by omega, by go_num, rfl, by omega, HX1, _, rfl⟩
                case measure => simp [intOf]; omega
      · obtain rfl : k = n3 := by omega
        have hxx : x = n4 := by rw [HX.out, HN.out, HHL.out, HNW.out]
        subst hxx
        have hb := below_drewN' b5 q
        go_wp2_with fail
        refine (alive_any _).mono ?_
        rintro e w6 ⟨rfl, rfl⟩
        go_wp2
        go_ret
        exact ⟨rfl, hb⟩
  · have h2 : (1048576 : Int) < (len : Int) := by omega
    go_enter Try.func7, Try.ntmps7
    go_wp2
    go_ret
    exact ⟨rfl, Below.refl _ _⟩

end Go.Proofs.Ytdcdminjoehiiaa
