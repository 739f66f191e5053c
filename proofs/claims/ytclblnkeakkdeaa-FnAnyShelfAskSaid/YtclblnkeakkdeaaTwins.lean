/-
  The contract of the model's function TwinsOf. Condition: rows have at most 2^20 marks.
-/
import Derived.Test.YtclblnkeakkdeaaMarks
import Derived.Test.YtclblnkeakkdeaaMathTwin
namespace Go.Proofs.Ytclblnkeakkdeaa
open Go.RowKit

theorem Try.ulT4 : Try.prog.underlying 47 = some (.slice 101) := by kernel_rfl
theorem Try.infoT4 : (Try.prog.info? 101).map (fun i => (i.zero, i.size, i.bytes)) = some (some (.agg #[.int .i64 0, .int .i64 0]), 2, 16) := by kernel_rfl

set_option maxHeartbeats 4000000 in
theorem specTwins_any (A B : List (Int × Int)) (a : Option Addr) (n c : Nat) (b : Option Addr) (m d : Nat) (w : World) (hn : n = A.length) (hm : m = B.length) (hn9 : n ≤ 1048576) (hm9 : m ≤ 1048576) (hA : CellsAt w a (pairsC A)) (hB : CellsAt w b (pairsC B)) :
    Calls Try.prog 81 #[.slice a n c, .slice b m d] w fun e w' => ∃ a' n' c', e = .returned (.slice a' n' c') ∧ One w w.heap.size w' 101 2 a' n' c' (pairsC (twinsL A B)) := by
  have HN := Lib.hid hn
  have HM := Lib.hid hm
  clear hn hm
  go_enter Try.func81, Try.ntmps81
  go_wp2
  go_loopw [5, 6] (fun o_ i_ wr => ∃ i : Nat, i ≤ n ∧ i_ = .int .i64 i ∧ ∃ a' n' c', o_ = .slice a' n' c' ∧ n' ≤ i * 1048576 ∧ One w w.heap.size wr 101 2 a' n' c' (pairsC (twinsL (A.take i) B))) (fun _ i_ _ => n - (intOf i_).toNat)
  case atStart => exact ⟨0, Nat.zero_le _, rfl, _, 0, _, rfl, by omega, One.empty _ _ _⟩
  case round =>
    obtain ⟨i, hi, rfl, a1, n1, c1, rfl, hn1, hone⟩ := hrel
    by_cases hlt : i < n
    · have hiA : i < A.length := by have := HN.out; omega
      obtain ⟨ab, ao, rfl, hab, hac⟩ := hA.pair (fun e => by rw [e] at hiA; simp at hiA)
      have hai := hac i hiA
      obtain ⟨p, hp⟩ : ∃ p, A[i].1 = p := ⟨_, rfl⟩
      obtain ⟨x, hx⟩ : ∃ x, A[i].2 = x := ⟨_, rfl⟩
      rw [hp, hx] at hai
      have HA := Lib.hid (show ∀ w', Below w.heap.size w w' → w'.cell? ⟨ab, ao + i * 2, none⟩ = some (.int .i64 p) ∧ w'.cell? ⟨ab, ao + i * 2 + 1, none⟩ = some (.int .i64 x) from fun w' h => ⟨(h.cell (p := ⟨ab, ao + i * 2, none⟩) hab).trans hai.1, (h.cell (p := ⟨ab, ao + i * 2 + 1, none⟩) hab).trans hai.2⟩)
      have HE := Lib.hid (show A[i] = (p, x) by rw [← hp, ← hx])
      have H0 := Lib.hid (show One w w.heap.size wr 101 2 a1 n1 c1 (pairsC (twinsL (A.take i) B ++ rowT (p, x) (B.take 0))) by simpa [rowT] using hone)
      clear hac hai hp hx hone
      go_wp2
      go_loopw [5, 7] (fun o_ k_ wr => ∃ k : Nat, k ≤ m ∧ k_ = .int .i64 k ∧ ∃ a' n' c', o_ = .slice a' n' c' ∧ n' ≤ i * 1048576 + k ∧ One w w.heap.size wr 101 2 a' n' c' (pairsC (twinsL (A.take i) B ++ rowT (p, x) (B.take k)))) (fun _ k_ _ => m - (intOf k_).toNat)
      case atStart => exact ⟨0, Nat.zero_le _, rfl, _, _, _, rfl, Nat.le_trans hn1 (Nat.le_add_right _ _), H0.out⟩
      case round =>
        clear H0
        obtain ⟨k, hk, rfl, a2, n2, c2, rfl, hn2, hone⟩ := hrel
        by_cases hlk : k < m
        · have hkB : k < B.length := by have := HM.out; omega
          obtain ⟨bb, bo, rfl, hbb, hbc⟩ := hB.pair (fun e => by rw [e] at hkB; simp at hkB)
          have hbk := hbc k hkB
          obtain ⟨q, hq⟩ : ∃ q, B[k].1 = q := ⟨_, rfl⟩
          obtain ⟨y, hy⟩ : ∃ y, B[k].2 = y := ⟨_, rfl⟩
          have hyes := rowT_yes (p, x) B k hkB
          have hno := rowT_no (p, x) B k hkB
          rw [hq, hy] at hbk
          rw [hq] at hyes hno
          rw [hy] at hyes
          have HB := Lib.hid (show ∀ w', Below w.heap.size w w' → w'.cell? ⟨bb, bo + k * 2, none⟩ = some (.int .i64 q) ∧ w'.cell? ⟨bb, bo + k * 2 + 1, none⟩ = some (.int .i64 y) from fun w' h => ⟨(h.cell (p := ⟨bb, bo + k * 2, none⟩) hbb).trans hbk.1, (h.cell (p := ⟨bb, bo + k * 2 + 1, none⟩) hbb).trans hbk.2⟩)
          obtain ⟨r1, r2⟩ := HA.out _ hone.below
          obtain ⟨r3, r4⟩ := HB.out _ hone.below
          clear hbc hbk hq hy
          by_cases hpq : p = q
          · have t1 : (p == q) = true := by rw [hpq]; exact beq_self_eq_true _
            have HS := Lib.hid (show pairsC (twinsL (A.take i) B ++ rowT (p, x) (B.take (k + 1))) = pairsC (twinsL (A.take i) B ++ rowT (p, x) (B.take k)) ++ [.int .i64 x, .int .i64 y] by rw [hyes hpq, ← List.append_assoc, pairsC_append]; rfl)
            clear hpq hyes hno
            go_wp2
            go_quiet (fail)
            go_wp2
            go_region_held3 (fun w' => w'.cell? ⟨ab, ao + i * 2 + 1, none⟩ = some (.int .i64 x) ∧ w'.cell? ⟨bb, bo + k * 2 + 1, none⟩ = some (.int .i64 y)) (first | go_keep | exact ⟨(HA.out _ h3.below).2, (HB.out _ h3.below).2⟩)
              ((refine step_append_to w w.heap.size a2 n2 c2 (pairsC (twinsL (A.take i) B ++ rowT (p, x) (B.take k))) (some ⟨wr.heap.size, 0, none⟩) 1 1 [.int .i64 x, .int .i64 y] (n2 + 1) (pairsC (twinsL (A.take i) B ++ rowT (p, x) (B.take (k + 1)))) (by rfl) (by exact HS.out.symm) (by rfl) (.tmp 32) (.tmp 44) 47 (by rfl) (by rfl) (by rfl) Try.ulT4 Try.infoT4 rfl (by decide) (by rfl) (by simp [Value.oneCell']) (by unfold maxLen; omega) (by omega) (by repeat (first | exact hone | refine One.drew ?_ | exact One.drewN hone _ | refine One.alloc ?_ _)) (by repeat (first | exact cellsAt_lit _ _ _ _ rfl | refine CellsAt.drewW ?_)) ?_; intro a3 c3 w3 h3 g3))
            go_wp2
            go_roundw
            case rel => exact ⟨k + 1, by omega, by go_num, a3, n2 + 1, c3, rfl, by omega, h3⟩
            case measure => simp [intOf]; omega
          · have t1 : (p == q) = false := by simpa using hpq
            have HS := Lib.hid (show pairsC (twinsL (A.take i) B ++ rowT (p, x) (B.take (k + 1))) = pairsC (twinsL (A.take i) B ++ rowT (p, x) (B.take k)) by rw [hno hpq])
            clear hpq hyes hno
            go_wp2
            go_quiet (fail)
            go_wp2
            go_roundw
            case rel => exact ⟨k + 1, by omega, by go_num, a2, n2, c2, rfl, by omega, by rw [HS.out]; exact hone.drewN _⟩
            case measure => simp [intOf]; omega
        · have HO := Lib.hid (show One w w.heap.size wr 101 2 a2 n2 c2 (pairsC (twinsL (A.take (i + 1)) B)) by
            rw [twinsL_next A B i hiA, HE.out]
            rw [show B.take k = B from List.take_of_length_le (by have := HM.out; omega)] at hone
            exact hone)
          clear hone
          go_wp2
          go_roundw
          case rel => exact ⟨i + 1, by omega, by go_num, a2, n2, c2, rfl, by omega, HO.out⟩
          case measure => simp [intOf]; omega
    · have HO := Lib.hid (show One w w.heap.size wr 101 2 a1 n1 c1 (pairsC (twinsL A B)) by
        rw [show A.take i = A from List.take_of_length_le (by have := HN.out; omega)] at hone
        exact hone)
      clear hone
      go_wp2
      go_ret
      exact ⟨_, _, _, rfl, HO.out⟩

end Go.Proofs.Ytclblnkeakkdeaa
