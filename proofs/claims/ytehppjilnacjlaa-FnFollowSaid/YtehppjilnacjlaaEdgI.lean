/-
  The contracts of the program's functions stateBy, withEdge and isState. Condition: rows have at most 2^20 edges.
-/
import Derived.Test.YtehppjilnacjlaaMachE
namespace Go.Proofs.Ytehppjilnacjlaa
open Go.RowKit

/-- A new row without edges, with room for as many as asked for. -/
theorem edge_room (w : World) (n : Nat) (hn : n ≤ 1099511627776) :
    ∃ w', (Instr.makeSlice 27 (.int .i64 0) (.int .i64 (n : Int))).run Try.prog w = .ok (.slice (some ⟨w.heap.size, 0, none⟩) 0 n) w' ∧
      One w w.heap.size w' 31 2 (some ⟨w.heap.size, 0, none⟩) 0 n [] := by
  obtain ⟨i, hi, hz, hsi, hby⟩ := info_parts Try.infoG9
  obtain ⟨w', h1, h2, h3⟩ := run_make_own (P := Try.prog) w w.heap.size 27 31 i (.agg #[.int .i64 0, .int .i64 0]) 2 Try.ulG9 hi hz hsi .i64 .i64 n (by rw [hby]; omega) (by unfold maxLen; omega) (Nat.le_refl _)
  exact ⟨w', h1, h2, h3.size, ⟨h3.os, h3.tape, h3.output, h3.size, fun k hk => h3.block k hk (by simp)⟩⟩

set_option maxHeartbeats 4000000 in
theorem implBy_any (F : List (Int × Int)) (s : Int) (a : Option Addr) (n c : Nat) (w : World) (hn : n = F.length) (hn9 : n ≤ 1048576) (hat : CellsAt w a (pairsC F)) :
    Calls Try.prog 43 #[.slice a n c, .int .i64 s] w fun e w' => e = .returned (.int .i64 (toE F s)) ∧ w' = w := by
  have HN := Lib.hid hn
  have HAT := Lib.hid hat
  clear hn hat
  go_enter Try.func43, Try.ntmps43
  go_wp2
  go_loopw [8] (fun k_ wr => ∃ k : Nat, k ≤ n ∧ k_ = .int .i64 (k : Int) ∧ Hid (toE F s = toE (F.drop k) s) ∧ Hid (wr = w)) (fun k_ _ => n - (intOf k_).toNat)
  case atStart => exact ⟨0, Nat.zero_le _, rfl, Lib.hid (by rw [List.drop_zero]), Lib.hid rfl⟩
  case round =>
    obtain ⟨k, hk, rfl, HT, HW⟩ := hrel
    obtain rfl := HW.out
    clear HW
    by_cases hlt : k < n
    · have hkl : k < F.length := by have := HN.out; omega
      obtain ⟨x, hx⟩ : ∃ x, F[k].1 = x := ⟨_, rfl⟩
      obtain ⟨y, hy⟩ : ∃ x, F[k].2 = x := ⟨_, rfl⟩
      have hto := toE_at hkl s
      rw [hx, hy] at hto
      obtain ⟨b, o, rfl, hb9, hc⟩ := HAT.out.pair (fun e => by rw [e] at hkl; simp at hkl)
      obtain ⟨e1, e2⟩ := hc k hkl
      rw [hx] at e1
      rw [hy] at e2
      have z1 : (k : Int) < (n : Int) := by omega
      have z0 : (0 : Int) ≤ (k : Int) := by omega
      clear hx hy hc
      by_cases hxs : x = s
      · have t1 : (x == s) = true := by rw [hxs]; exact beq_self_eq_true _
        have HR := Lib.hid (show toE F s = y by rw [HT.out, hto, if_pos hxs])
        clear hto hxs
        go_wp2
        go_ret
        exact ⟨by rw [HR.out]; rfl, rfl⟩
      · have t1 : (x == s) = false := by simpa using hxs
        have HT2 := Lib.hid (show toE F s = toE (F.drop (k + 1)) s by rw [HT.out, hto, if_neg hxs])
        clear hto hxs HT
        go_wp2
        go_roundw
        case rel => exact ⟨k + 1, by omega, by go_num, HT2, Lib.hid (by trivial)⟩
        case measure => simp [intOf]; omega
    · have HR := Lib.hid (show toE F s = -1 by rw [HT.out, List.drop_eq_nil_of_le (by have := HN.out; omega)]; rfl)
      go_wp2
      go_ret
      exact ⟨by rw [HR.out]; rfl, rfl⟩

set_option maxHeartbeats 2000000 in
theorem implIs_any (a : Option Addr) (n c : Nat) (i : Int) (w : World) :
    Calls Try.prog 50 #[.slice a n c, .int .i64 i] w fun e w' => e = .returned (.bool (decide (0 ≤ i ∧ i < (n : Int)))) ∧ w' = w := by
  by_cases h0 : 0 ≤ i
  · have t0 : decide (i ≥ 0) = true := decide_eq_true h0
    by_cases h1 : i < (n : Int)
    · have t1 : decide (i < (n : Int)) = true := decide_eq_true h1
      have HD := Lib.hid (show decide (0 ≤ i ∧ i < (n : Int)) = true from decide_eq_true ⟨h0, h1⟩)
      go_enter Try.func50, Try.ntmps50
      go_wp2
      go_ret
      exact ⟨by first | rfl | (rw [HD.out]; rfl), rfl⟩
    · have t1 : decide (i < (n : Int)) = false := decide_eq_false h1
      have HD := Lib.hid (show decide (0 ≤ i ∧ i < (n : Int)) = false from decide_eq_false (fun e => h1 e.2))
      go_enter Try.func50, Try.ntmps50
      go_wp2
      go_ret
      exact ⟨by first | rfl | (rw [HD.out]; rfl), rfl⟩
  · have t0 : decide (i ≥ 0) = false := decide_eq_false h0
    have HD := Lib.hid (show decide (0 ≤ i ∧ i < (n : Int)) = false from decide_eq_false (fun e => h0 e.1))
    go_enter Try.func50, Try.ntmps50
    go_wp2
    go_ret
    exact ⟨by first | rfl | (rw [HD.out]; rfl), rfl⟩

set_option maxHeartbeats 8000000 in
theorem implWith_any (F : List (Int × Int)) (s t : Int) (R : List (Int × Int)) (a : Option Addr) (n c : Nat) (w : World) (hR : setE F s t = R) (hn : n = F.length) (hn9 : n ≤ 1048576) (hnc : n ≤ c) (hat : CellsAt w a (pairsC F)) :
    Calls Try.prog 41 #[.slice a n c, .int .i64 s, .int .i64 t] w fun e w' => ∃ a' n' c', e = .returned (.slice a' n' c') ∧ One w w.heap.size w' 31 2 a' n' c' (pairsC R) := by
  have HR := Lib.hid hR
  have HN := Lib.hid hn
  have HAT := Lib.hid hat
  obtain ⟨w0, hmk, hone1⟩ := edge_room w (n + 1) (by omega)
  have vm : IntKind.i64.wrap ((n : Int) + 1) = (n : Int) + 1 := IntWalk.i64_in _ (by omega)
  rw [show ((n + 1 : Nat) : Int) = (n : Int) + 1 by omega] at hmk
  obtain ⟨g, hg⟩ : ∃ g, w.heap.size = g := ⟨_, rfl⟩
  have HONE := Lib.hid (show One w w.heap.size w0 31 2 (some ⟨g, 0, none⟩) 0 (n + 1) [] by rw [← hg]; exact hone1)
  rw [hg] at hmk
  have HG := Lib.hid hg
  have HMK := Lib.hid hmk
  clear hR hn hat hone1 hg hmk
  go_enter Try.func41, Try.ntmps41
  go_wp2
  go_loopw [7] (fun k_ wr => ∃ k : Nat, k ≤ n ∧ k_ = .int .i64 (k : Int) ∧ Hid (∀ j (hj : j < F.length), j < k → F[j].1 < s) ∧ Hid (wr = w)) (fun k_ _ => n - (intOf k_).toNat)
  case atStart => exact ⟨0, Nat.zero_le _, rfl, Lib.hid (fun j hj h => absurd h (Nat.not_lt_zero _)), Lib.hid rfl⟩
  case round =>
    obtain ⟨k, hk, rfl, HL, HW⟩ := hrel
    obtain rfl := HW.out
    clear HW
    have hset := setE_at (t := t) k (by have := HN.out; omega) HL.out
    obtain ⟨a1, sl1, hc1⟩ := edg_upto a n c k (by omega)
    obtain ⟨a2, q, f, hq, hqf, hfc, sl2, hc2⟩ := edg_from a n c k hk hnc
    have HC1 := Lib.hid (fun w' (h : Below wr.heap.size wr w') => hc1 w' F (HAT.out.below h))
    have HL1 := Lib.hid (show (pairsC (F.take k)).length = k * 2 by rw [pairsC_len, List.length_take]; have := HN.out; omega)
    have HC2 := Lib.hid (fun w' (h : Below wr.heap.size wr w') => hc2 w' F HN.out (HAT.out.below h))
    have HL2 := Lib.hid (show (pairsC (F.drop k)).length = q * 2 by rw [pairsC_len, List.length_drop, hq, HN.out])
    have q9 : q ≤ 1048576 := by omega
    have hone0 := HONE.out
    have hmk := HMK.out
    have z2 : (0 : Int) ≤ (n : Int) + 1 := by omega
    clear hc1 hc2 hq hfc
    have HS1 := Lib.hid (show ∀ l : List (Int × Int), ([] : List Value) ++ pairsC (F.take k) ++ [.int .i64 s, .int .i64 t] ++ pairsC l = pairsC (F.take k ++ (s, t) :: l) from fun l => by rw [pairsC_append]; simp [pairsC, pairC])
    by_cases hlt : k < n
    · have hkl : k < F.length := by have := HN.out; omega
      obtain ⟨x, hx⟩ : ∃ x, F[k].1 = x := ⟨_, rfl⟩
      obtain ⟨b, o, rfl, hb9, hc⟩ := HAT.out.pair (fun e => by rw [e] at hkl; simp at hkl)
      have e1 := (hc k hkl).1
      rw [hx] at e1
      have z1 : (k : Int) < (n : Int) := by omega
      have z0 : (0 : Int) ≤ (k : Int) := by omega
      have HX := Lib.hid hx
      clear hx hc
      by_cases hxs : x < s
      · have t1 : decide (x < s) = true := decide_eq_true hxs
        have HL2 := Lib.hid (show ∀ j (hj : j < F.length), j < k + 1 → F[j].1 < s from fun j hj h => by
          by_cases e : j = k
          · subst e; rw [HX.out]; exact hxs
          · exact HL.out j hj (by omega))
        clear hxs hset hmk hone0
        go_wp2
        go_roundw
        case rel => exact ⟨k + 1, by omega, by go_num, HL2, Lib.hid (by trivial)⟩
        case measure => simp [intOf]; omega
      · have t1 : decide (x < s) = false := decide_eq_false hxs
        by_cases hxe : x = s
        · obtain ⟨a3, q3, f3, hq3, hqf3, hfc3, sl3, hc3⟩ := edg_from (some ⟨b, o, none⟩) n c (k + 1) (by omega) hnc
          have t2 : (x == s) = true := by rw [hxe]; exact beq_self_eq_true _
          have HRR := Lib.hid (hset.2.1 hkl (by rw [HX.out]; exact hxe))
          have HC3 := Lib.hid (fun w' (h : Below wr.heap.size wr w') => hc3 w' F HN.out (HAT.out.below h))
          have HL3 := Lib.hid (show (pairsC (F.drop (k + 1))).length = q3 * 2 by rw [pairsC_len, List.length_drop, hq3, HN.out])
          have q39 : q3 ≤ 1048576 := by omega
          have v1 : IntKind.i64.wrap ((k : Int) + 1) = (k : Int) + 1 := IntWalk.i64_in _ (by omega)
          have sl4 := fun w => by
            have h := sl3 w
            rwa [show ((k + 1 : Nat) : Int) = (k : Int) + 1 by omega] at h
          clear hset hc3 hq3 hfc3 hxe hxs sl3
          go_wp2_with (at_builtin; first
            | (refine wpList_append_src rfl (.tmp 45) (.tmp 48) 27 rfl Try.ulG9 Try.infoG9 rfl (by decide) hone0 rfl a1 k c rfl (pairsC (F.take k)) HL1.out (HC1.out _ hone0.below) (pairsC_one _) (by unfold maxLen; omega) (by omega) ?_; intro a5 c5 w5 h5; rw [Nat.zero_add] at h5)
            | (refine wpList_append_row rfl (.tmp 50) (.tmp 54) 27 rfl Try.ulG9 Try.infoG9 rfl (by decide) h5 rfl #[.int .i64 s, .int .i64 t] rfl rfl (by simp [Value.oneCell']) (by unfold maxLen; omega) (by omega) ?_; intro a6 c6 w6 h6)
            | (refine wpList_append_src rfl (.tmp 56) (.tmp 59) 27 rfl Try.ulG9 Try.infoG9 rfl (by decide) h6 rfl a3 q3 f3 rfl (pairsC (F.drop (k + 1))) HL3.out (HC3.out _ h6.below) (pairsC_one _) (by unfold maxLen; omega) (by omega) ?_; intro a7 c7 w7 h7))
          go_ret
          exact ⟨_, _, _, rfl, by rw [← HR.out, HRR.out, ← HS1.out]; exact h7⟩
        · have t2 : (x == s) = false := by simpa using hxe
          have HRR := Lib.hid (hset.2.2 hkl (by rw [HX.out]; omega))
          clear hset hxe hxs
          go_wp2_with (at_builtin; first
            | (refine wpList_append_src rfl (.tmp 45) (.tmp 48) 27 rfl Try.ulG9 Try.infoG9 rfl (by decide) hone0 rfl a1 k c rfl (pairsC (F.take k)) HL1.out (HC1.out _ hone0.below) (pairsC_one _) (by unfold maxLen; omega) (by omega) ?_; intro a5 c5 w5 h5; rw [Nat.zero_add] at h5)
            | (refine wpList_append_row rfl (.tmp 50) (.tmp 54) 27 rfl Try.ulG9 Try.infoG9 rfl (by decide) h5 rfl #[.int .i64 s, .int .i64 t] rfl rfl (by simp [Value.oneCell']) (by unfold maxLen; omega) (by omega) ?_; intro a6 c6 w6 h6)
            | (refine wpList_append_src rfl (.tmp 56) (.tmp 59) 27 rfl Try.ulG9 Try.infoG9 rfl (by decide) h6 rfl a2 q f rfl (pairsC (F.drop k)) HL2.out (HC2.out _ h6.below) (pairsC_one _) (by unfold maxLen; omega) (by omega) ?_; intro a7 c7 w7 h7))
          go_ret
          exact ⟨_, _, _, rfl, by rw [← HR.out, HRR.out, ← HS1.out]; exact h7⟩
    · have HRR := Lib.hid (show setE F s t = F.take k ++ (s, t) :: F.drop k by
        have e : k = F.length := by have := HN.out; omega
        rw [hset.1 e, e, List.take_length, List.drop_length])
      clear hset
      go_wp2_with (at_builtin; first
        | (refine wpList_append_src rfl (.tmp 45) (.tmp 48) 27 rfl Try.ulG9 Try.infoG9 rfl (by decide) hone0 rfl a1 k c rfl (pairsC (F.take k)) HL1.out (HC1.out _ hone0.below) (pairsC_one _) (by unfold maxLen; omega) (by omega) ?_; intro a5 c5 w5 h5; rw [Nat.zero_add] at h5)
        | (refine wpList_append_row rfl (.tmp 50) (.tmp 54) 27 rfl Try.ulG9 Try.infoG9 rfl (by decide) h5 rfl #[.int .i64 s, .int .i64 t] rfl rfl (by simp [Value.oneCell']) (by unfold maxLen; omega) (by omega) ?_; intro a6 c6 w6 h6)
        | (refine wpList_append_src rfl (.tmp 56) (.tmp 59) 27 rfl Try.ulG9 Try.infoG9 rfl (by decide) h6 rfl a2 q f rfl (pairsC (F.drop k)) HL2.out (HC2.out _ h6.below) (pairsC_one _) (by unfold maxLen; omega) (by omega) ?_; intro a7 c7 w7 h7))
      go_ret
      exact ⟨_, _, _, rfl, by rw [← HR.out, HRR.out, ← HS1.out]; exact h7⟩

end Go.Proofs.Ytehppjilnacjlaa
