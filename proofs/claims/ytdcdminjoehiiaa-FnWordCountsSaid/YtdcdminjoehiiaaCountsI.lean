/-
  The contract of the program's function WordCounts. Condition: the texts and their bytes are at most 2^20 together.
-/
import Derived.Test.YtdcdminjoehiiaaCounts
namespace Go.Proofs.Ytdcdminjoehiiaa
open Go.RowKit

theorem Try.infoI2 : (Try.prog.info? 3).map (fun i => (i.zero, i.size, i.bytes)) = some (some (.int .i64 0), 1, 8) := by kernel_rfl

theorem get_last {l : List Value} {v : Value} {m : Nat} (h : l.length = m) : (l ++ [v])[m]? = some v := by
  rw [List.getElem?_append_right (by omega), h, Nat.sub_self]; rfl

theorem newW {ys : List ByteArray} {k : Nat} {t : ByteArray} (h : countC (ys.take (k + 1)) = countC (ys.take k) ++ [(t, 1)]) : strsC (cntW (countC (ys.take (k + 1)))) = strsC (cntW (countC (ys.take k))) ++ [.string t] := by
  rw [h]; simp [cntW, strsC]
theorem newN {ys : List ByteArray} {k : Nat} {t : ByteArray} (h : countC (ys.take (k + 1)) = countC (ys.take k) ++ [(t, 1)]) : intCells (cntN (countC (ys.take (k + 1)))) = (intCells (cntN (countC (ys.take k))) ++ [Value.int .i64 0]).set (countC (ys.take k)).length (Value.int .i64 1) := by
  rw [h]
  have e : (intCells (cntN (countC (ys.take k)))).length = (countC (ys.take k)).length := by simp [intCells, cntN]
  rw [List.set_append, if_neg (by rw [e]; omega), e, Nat.sub_self]
  simp [cntN, intCells]

set_option maxHeartbeats 8000000 in
theorem implWordCounts_any (xs : List ByteArray) (a : Option Addr) (n c : Nat) (w : World) (hn : n = xs.length) (hnc : n ≤ c) (hl : n ≤ 1048576) (hat : CellsAt w a (strsC xs)) :
    Calls Try.prog 34 #[.slice a n c] w fun e w' => ∃ a1 n1 c1 a2 n2 c2, e = .returned (.tuple #[.slice a1 n1 c1, .slice a2 n2 c2]) ∧
      Two w w.heap.size w' 9 1 a1 n1 c1 (strsC (cntW (countC xs))) 3 1 a2 n2 c2 (intCells (cntN (countC xs))) := by
  have HN := Lib.hid hn
  clear hn
  go_enter Try.func34, Try.ntmps34
  go_wp2_with fail
  refine (sortedTexts_any n xs a n c w (Nat.le_refl _) HN.out hnc hl hat).mono ?_
  rintro e w1 ⟨a0, n0, c0, ys, rfl, o1, p1, s1⟩
  have hn0 : n0 = ys.length := by have := o1.len; rw [strsC_len] at this; omega
  have hlen := p1.length_eq
  have hn9 : n0 ≤ 1048576 := by have := HN.out; omega
  have HN0 := Lib.hid hn0
  have P := Lib.hid p1
  have S := Lib.hid s1
  have hys := o1.at_
  have hbel := o1.below
  have hbase := o1.base
  clear hn0 hlen p1 s1 o1 hat
  go_wp2
  go_loopw [5, 6, 7, 12] (fun v u v7 i wr => ∃ k : Nat, k ≤ n0 ∧ i = .int .i64 k ∧ ∃ a1 c1 a2 c2 m, v = .slice a1 m c1 ∧ u = .slice a2 m c2 ∧ Hid (m = (countC (ys.take k)).length) ∧
      Two w1 w1.heap.size wr 9 1 a1 m c1 (strsC (cntW (countC (ys.take k)))) 3 1 a2 m c2 (intCells (cntN (countC (ys.take k)))))
    (fun _ _ _ i _ => n0 - (intOf i).toNat)
  case atStart => exact ⟨0, Nat.zero_le _, rfl, none, 0, none, 0, 0, rfl, rfl, Lib.hid rfl, Two.nil _ _ _ _ _ (by decide)⟩
  case round =>
    obtain ⟨k, hk, rfl, a1, c1, a2, c2, m, rfl, rfl, HM, htwo⟩ := hrel
    by_cases hlt : k < n0
    · have hkl : k < ys.length := by rw [← HN0.out]; exact hlt
      obtain ⟨b, o, rfl, hb0, hc⟩ := hys.str (fun e => by rw [e] at hkl; simp at hkl)
      have hm9 : m ≤ 1048576 := by have h1 := countC_len (ys.take k); rw [← HM.out, List.length_take] at h1; omega
      have e3 : IntKind.i64.wrap ((m : Int) + 1 - 1) = m := by rw [IntWalk.i64_in _ (by omega)]; omega
      obtain ⟨t, ht⟩ : ∃ t, ys[k] = t := ⟨_, rfl⟩
      have HG := Lib.hid (show ∀ w', Below w1.heap.size w1 w' → w'.cell? ⟨b, o + k, none⟩ = some (.string t) from fun w' hb => by rw [hb.cell (p := ⟨b, o + k, none⟩) hb0, hc k hkl, ht])
      have g1 := HG.out _ htwo.below
      by_cases h0 : k = 0
      · subst h0
        have hnew := count_new S.out 0 hkl (fun h => by omega)
        rw [ht] at hnew
        have HW := Lib.hid (newW hnew)
        have HX := newN hnew
        rw [← HM.out] at HX
        have HX := Lib.hid HX
        have HLn : Hid ((intCells (cntN (countC (ys.take 0)))).length = m) := Lib.hid (by rw [HM.out]; simp [intCells, cntN])
        have HM2 := Lib.hid (show m + 1 = (countC (ys.take (0 + 1))).length by rw [hnew, List.length_append, ← HM.out]; rfl)
        clear hnew ht hc
        rw [Nat.add_zero] at g1
        go_wp2
        go_quiet (fail)
        go_wp2_with fail
        refine (ownText_any _ _).mono ?_
        rintro e w2 ⟨rfl, hb2⟩
        have ht2 := (htwo.drewN _).later hb2
        clear htwo hb2
        go_wp2_with (first
          | (at_builtin; refine wpList_append_fst rfl (.tmp 29) (.tmp 35) 33 rfl Try.ulS Try.infoS rfl (by decide) ht2 rfl #[.string t] rfl rfl (by simp [Value.oneCell']) (by unfold maxLen; omega) (by omega) ?_; intro a3 c3 w3 h3)
          | (at_builtin; refine wpList_append_snd rfl (.tmp 37) (.tmp 38) 27 rfl Try.ulI Try.infoI2 rfl (by decide) h3 rfl #[.int .i64 0] rfl rfl (by simp [Value.oneCell']) (by unfold maxLen; omega) (by omega) ?_; intro a4 c4 w4 h4; obtain ⟨g, rfl⟩ := own_addr h4.two (by omega); have hf := h4.two.frozenAt m; have hcell := (h4.two.cellAt m (by omega)).trans (get_last HLn.out); have hst := h4.stored2 m (.int .i64 1); rw [← HX.out, ← HW.out] at hst))
        go_roundw
        case rel => exact ⟨1, by omega, by go_num, _, _, _, _, m + 1, rfl, rfl, HM2, hst⟩
        case measure => simp [intOf]; omega
      · obtain ⟨j, rfl⟩ : ∃ j, k = j + 1 := ⟨k - 1, by omega⟩
        have hjl : j < ys.length := by omega
        obtain ⟨u, hu⟩ : ∃ u, ys[j] = u := ⟨_, rfl⟩
        have g2 : wr.cell? ⟨b, o + j, none⟩ = some (.string u) := by rw [htwo.below.cell (p := ⟨b, o + j, none⟩) hb0, hc j hjl, hu]
        have t0 : (((j : Int) + 1) == 0) = false := by simp; omega
        have t1 : IntKind.i64.wrap ((j : Int) + 1 - 1) = j := by rw [IntWalk.i64_in _ (by omega)]; omega
        have t2 : (0 : Int) ≤ (j : Int) + 1 := by omega
        have t3 : (j : Int) + 1 < n0 := by omega
        have t4 : ((j : Int) + 1).toNat = j + 1 := by omega
        have t5 : j < n0 := by omega
        by_cases he : ys[j + 1] = ys[j]
        · obtain ⟨pre, z, q1, q2, q3, q4⟩ := count_again S.out j hkl he
          have htu : t = u := by rw [← ht, ← hu, he]
          subst htu
          have hz9 : z ≤ 1048577 := by omega
          have hmz : m = pre.length + 1 := by rw [HM.out, q1, List.length_append]; rfl
          have HW := Lib.hid (show strsC (cntW (countC (ys.take (j + 1 + 1)))) = strsC (cntW (countC (ys.take (j + 1)))) by rw [q1, q2]; simp [cntW])
          have HP := Lib.hid (show intCells (cntN (countC (ys.take (j + 1)))) = intCells (cntN pre) ++ [.int .i64 z] by rw [q1]; simp [cntN, intCells])
          have HLn := Lib.hid (show (intCells (cntN pre)).length = pre.length by simp [intCells, cntN])
          have HX : Hid (intCells (cntN (countC (ys.take (j + 1 + 1)))) = (intCells (cntN (countC (ys.take (j + 1))))).set pre.length (.int .i64 ((z : Int) + 1))) := Lib.hid (by
            rw [q2, HP.out, List.set_append, if_neg (by rw [HLn.out]; omega), HLn.out, Nat.sub_self]
            simp [cntN, intCells])
          have HM2 := Lib.hid (show m = (countC (ys.take (j + 1 + 1))).length by rw [q2, hmz, List.length_append]; rfl)
          obtain ⟨g, rfl⟩ := own_addr htwo.two (by omega)
          have hf := htwo.two.frozenAt pre.length
          have hcell := htwo.two.cellAt pre.length (by omega)
          rw [HP.out, get_last HLn.out] at hcell
          have hst := htwo.stored2 pre.length (.int .i64 ((z : Int) + 1))
          rw [← HX.out, ← HW.out] at hst
          obtain ⟨r, hr⟩ : ∃ r, pre.length = r := ⟨_, rfl⟩
          rw [hr] at hmz hf hcell hst q4
          have e4 : IntKind.i64.wrap ((m : Int) - 1) = r := by rw [IntWalk.i64_in _ (by omega)]; omega
          have e5 : r < m := by omega
          clear he q1 q2 hr ht hu hc HX HW HP HLn HG htwo hmz e3
          have hst2 : ∀ q, Two w1 w1.heap.size ((wr.setCell ⟨g, r, none⟩ (.int .i64 ((z : Int) + 1))).drewN q) 9 1 a1 m c1 (strsC (cntW (countC (ys.take (j + 1 + 1))))) 3 1 (some ⟨g, 0, none⟩) m c2 (intCells (cntN (countC (ys.take (j + 1 + 1))))) := fun q => hst.drewN q
          clear hst
          go_wp2
          go_quiet (fail)
          go_wp2
          go_roundw
          case rel => exact ⟨j + 1 + 1, by omega, by go_num, _, _, _, _, m, rfl, rfl, HM2, hst2 _⟩
          case measure => simp [intOf]; omega
        · have hnew := count_new S.out (j + 1) hkl (fun _ => he)
          rw [ht] at hnew
          have t6 : (t.toList == u.toList) = false := eqB_no (fun e => he (by rw [ht, hu, e]))
          have HW := Lib.hid (newW hnew)
          have HX := newN hnew
          rw [← HM.out] at HX
          have HX := Lib.hid HX
          have HLn : Hid ((intCells (cntN (countC (ys.take (j + 1))))).length = m) := Lib.hid (by rw [HM.out]; simp [intCells, cntN])
          have HM2 := Lib.hid (show m + 1 = (countC (ys.take ((j + 1) + 1))).length by rw [hnew, List.length_append, ← HM.out]; rfl)
          clear hnew ht hc hu he
          go_wp2
          go_quiet (fail)
          go_wp2_with fail
          refine (ownText_any _ _).mono ?_
          rintro e w2 ⟨rfl, hb2⟩
          have ht2 := (htwo.drewN _).later hb2
          clear htwo hb2
          go_wp2_with (first
            | (at_builtin; refine wpList_append_fst rfl (.tmp 29) (.tmp 35) 33 rfl Try.ulS Try.infoS rfl (by decide) ht2 rfl #[.string t] rfl rfl (by simp [Value.oneCell']) (by unfold maxLen; omega) (by omega) ?_; intro a3 c3 w3 h3)
            | (at_builtin; refine wpList_append_snd rfl (.tmp 37) (.tmp 38) 27 rfl Try.ulI Try.infoI2 rfl (by decide) h3 rfl #[.int .i64 0] rfl rfl (by simp [Value.oneCell']) (by unfold maxLen; omega) (by omega) ?_; intro a4 c4 w4 h4; obtain ⟨g, rfl⟩ := own_addr h4.two (by omega); have hf := h4.two.frozenAt m; have hcell := (h4.two.cellAt m (by omega)).trans (get_last HLn.out); have hst := h4.stored2 m (.int .i64 1); rw [← HX.out, ← HW.out] at hst))
          go_roundw
          case rel => exact ⟨j + 1 + 1, by omega, by go_num, _, _, _, _, m + 1, rfl, rfl, HM2, hst⟩
          case measure => simp [intOf]; omega
    · obtain rfl : k = n0 := by omega
      have hE : countC (ys.take k) = countC xs := by rw [List.take_of_length_le (by rw [HN0.out]; exact Nat.le_refl _)]; exact countC_perm P.out
      rw [hE] at htwo
      clear hE
      go_wp2
      go_ret2
      exact ⟨_, _, _, _, _, _, rfl, htwo.under hbel hbase⟩

end Go.Proofs.Ytdcdminjoehiiaa
