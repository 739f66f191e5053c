/-
  The contracts of the program's functions isSize, SureLength and MarksOf. Condition: texts have at most 2^22 bytes.
-/
import Derived.Test.YtclblnkeakkdeaaChosenI
import Derived.Test.YtclblnkeakkdeaaMarks
import Derived.Test.YtclblnkeakkdeaaMathAfterQ
namespace Go.Proofs.Ytclblnkeakkdeaa
open Go.RowKit

theorem implSize_no (k : Int) (w : World) (h : k < 1 ∨ 1000000 < k) :
    Calls Try.prog 85 #[.int .i64 k] w fun e w' => e = .returned (.bool false) ∧ w = w' := by
  by_cases h1 : k < 1
  · clear h
    go_enter Try.func85, Try.ntmps85
    go_wp2
    go_ret
    exact ⟨rfl, rfl⟩
  · have h2 : 1000000 < k := by omega
    have t : decide (k ≤ 1000000) = false := decide_eq_false (by omega)
    clear h
    go_enter Try.func85, Try.ntmps85
    go_wp2
    go_ret
    exact ⟨by first | rfl | (show Ending.returned (.bool (decide (k ≤ 1000000))) = _; rw [t]), rfl⟩
theorem implSize_yes (k : Int) (w : World) (h1 : 1 ≤ k) (h2 : k ≤ 1000000) :
    Calls Try.prog 85 #[.int .i64 k] w fun e w' => e = .returned (.bool true) ∧ w = w' := by
  go_enter Try.func85, Try.ntmps85
  go_wp2
  go_ret
  exact ⟨rfl, rfl⟩

theorem implSure_no (k v : Int) (w : World) (h : k < 1 ∨ v < 1 ∨ 1000000 < k ∨ 1000000 < v) :
    Calls Try.prog 43 #[.int .i64 k, .int .i64 v] w fun e w' => e = .returned (.int .i64 0) ∧ w = w' := by
  by_cases h1 : k < 1 ∨ 1000000 < k
  · clear h
    go_enter Try.func43, Try.ntmps43
    go_wp2_with fail
    refine (implSize_no k _ h1).mono ?_
    rintro e w1 ⟨rfl, rfl⟩
    clear h1
    go_wp2
    go_ret
    exact ⟨rfl, rfl⟩
  · have h2 : v < 1 ∨ 1000000 < v := by omega
    have h3 : 1 ≤ k := by omega
    have h4 : k ≤ 1000000 := by omega
    clear h h1
    go_enter Try.func43, Try.ntmps43
    go_wp2_with fail
    refine (implSize_yes k _ h3 h4).mono ?_
    rintro e w1 ⟨rfl, rfl⟩
    go_wp2_with fail
    refine (implSize_no v _ h2).mono ?_
    rintro e w1 ⟨rfl, rfl⟩
    clear h2
    go_wp2
    go_ret
    exact ⟨rfl, rfl⟩
theorem implSure_yes (k v : Int) (w : World) (h1 : 1 ≤ k) (h2 : 1 ≤ v) (h3 : k ≤ 1000000) (h4 : v ≤ 1000000) :
    Calls Try.prog 43 #[.int .i64 k, .int .i64 v] w fun e w' => e = .returned (.int .i64 (k + v - 1)) ∧ w = w' := by
  go_enter Try.func43, Try.ntmps43
  go_wp2_with fail
  refine (implSize_yes k _ h1 h3).mono ?_
  rintro e w1 ⟨rfl, rfl⟩
  go_wp2_with fail
  refine (implSize_yes v _ h2 h4).mono ?_
  rintro e w1 ⟨rfl, rfl⟩
  go_wp2
  go_ret
  exact ⟨rfl, rfl⟩

set_option maxHeartbeats 4000000 in
theorem implMarks_any (s : ByteArray) (k v : Int) (M : List (Int × Int)) (w : World) (hM : marksL s.data.toList k v = M) (hs : s.size ≤ 4194304) (hv9 : v ≤ 9223372036854775807) :
    Calls Try.prog 48 #[.string s, .int .i64 k, .int .i64 v] w fun e w' => ∃ a n c, e = .returned (.slice a n c) ∧ One w w.heap.size w' 46 2 a n c (pairsC M) := by
  obtain ⟨P, hP⟩ : ∃ P, printsL s.data.toList k = P := ⟨_, rfl⟩
  have hPl : P.length ≤ 4194304 := by
    have h := printsN_room s.data.toList k
    rw [hP] at h
    have : s.data.toList.length = s.size := rfl
    omega
  obtain ⟨C, hC⟩ : ∃ C, chosenN P v = C := ⟨_, rfl⟩
  have hCl : C.length ≤ P.length := by rw [← hC]; exact chosenN_len P v
  have HCx := Lib.hid (show ∀ i (h : i < C.length), C[i] < P.length from fun i h => by subst hC; exact chosenN_lt P v _ (List.getElem_mem h))
  have hML : M = C.map fun x => (P.getD x 0, (x : Int)) := by rw [← hM, marksL, marksAt, hP, hC]
  have HM := Lib.hid hML
  have hMl : M.length = C.length := by rw [hML, List.length_map]
  have HMl := Lib.hid hMl
  have c1 := fun w => implPrintsOf_is s k P w hs hP
  have HCe := Lib.hid hC
  have HPl := Lib.hid hPl
  have HCl := Lib.hid hCl
  clear hM hML hMl hC hP hPl hCl
  go_enter Try.func48, Try.ntmps48
  go_wp2_with fail
  refine (c1 _).mono ?_
  rintro e w2 ⟨la, ln, lc, rfl, h2⟩
  have hln : ln = P.length := by have h := h2.own.1; simp only [intCells, List.length_map] at h; omega
  have HLN := Lib.hid hln
  have hln9 : ln ≤ 4194304 := by have := HPl.out; omega
  clear hln
  go_wp2_with fail
  refine (implChosen_any P la ln lc v w2 HLN.out hln9 hv9 (cellsAt_own h2.own)).mono ?_
  rintro e w3 ⟨ca, cn, cc, rfl, h3⟩
  rw [HCe.out] at h3
  have hcn : cn = C.length := by have h := h3.own.1; rw [natC_len] at h; omega
  have HCN := Lib.hid hcn
  have hcn9 : cn ≤ 4194304 := by have := HCl.out; have := HPl.out; omega
  have hone0 : One w w.heap.size w3 46 2 none 0 0 (pairsC (M.take 0)) := ((One.nil w 46 2).later h2.below).later h3.below
  have hl0 : w3.ownsRow w.heap.size 3 1 (.slice la ln lc) ln (intCells P) := ownsRow_below h2.own h3.below
  have hc0 : w3.ownsRow w.heap.size 3 1 (.slice ca cn cc) cn (natC C) := own_under h3.own h2.base
  clear h2 h3 hcn c1
  go_wp2
  go_loopw [8, 18] (fun o_ i_ wr => ∃ i : Nat, i ≤ cn ∧ i_ = .int .i64 i ∧ ∃ a c, o_ = .slice a i c ∧ One w w.heap.size wr 46 2 a i c (pairsC (M.take i)) ∧ wr.ownsRow w.heap.size 3 1 (.slice la ln lc) ln (intCells P) ∧ wr.ownsRow w.heap.size 3 1 (.slice ca cn cc) cn (natC C)) (fun _ i_ _ => cn - (intOf i_).toNat)
  case atStart => exact ⟨0, Nat.zero_le _, rfl, _, _, rfl, hone0, hl0, hc0⟩
  case round =>
    clear hone0 hl0 hc0
    obtain ⟨i, hi, rfl, a, c, rfl, hone, hlr, hcr⟩ := hrel
    by_cases hlt : i < cn
    · have hic : i < C.length := by have := HCN.out; omega
      have hx := HCx.out i hic
      have hcg := natC_get C i hic
      have hmi : M[i]'(by rw [HMl.out]; exact hic) = (P.getD C[i] 0, (C[i] : Int)) := by simp [HM.out]
      obtain ⟨x, hxe⟩ : ∃ x, C[i] = x := ⟨_, rfl⟩
      rw [hxe] at hx hcg hmi
      obtain ⟨p, hp⟩ : ∃ p, P.getD x 0 = p := ⟨_, rfl⟩
      rw [hp] at hmi
      have hlg := intC_get P x p hx hp
      have hxl : x < ln := by have := HLN.out; omega
      obtain ⟨lg, rfl⟩ := own_addr hlr (by omega)
      obtain ⟨cg, rfl⟩ := own_addr hcr (by omega)
      have k1 : wr.cell? ⟨cg, i, none⟩ = some (.int .i64 (x : Int)) := by rw [hcr.cellAt i (by omega)]; exact hcg
      have k2 : wr.cell? ⟨lg, x, none⟩ = some (.int .i64 p) := by rw [hlr.cellAt x (by omega)]; exact hlg
      have HS := Lib.hid (pairs_take (by rw [HMl.out]; exact hic) hmi)
      have z1 : (0 : Int) ≤ (x : Int) := by omega
      have z2 : (x : Int) < (ln : Int) := by omega
      have z3 : (i : Int) < (cn : Int) := by omega
      clear hcg hmi hlg hxe hp hx
      go_wp2_with (at_builtin; refine wpList_append_apart rfl (.tmp 22) (.tmp 29) 39 rfl Try.ulM4 Try.infoM4 rfl (by decide) hone rfl #[.int .i64 p, .int .i64 (x : Int)] rfl rfl (by simp [Value.oneCell']) (by unfold maxLen; omega) (by omega) ?_; intro a5 c5 w5 h5 g5 p5)
      go_roundw
      case rel => exact ⟨i + 1, by omega, by go_num, a5, c5, rfl, by rw [HS.out]; exact h5, ownsRow_kept_apart hlr hone.own (by decide) g5, ownsRow_kept_apart hcr hone.own (by decide) g5⟩
      case measure => simp [intOf]; omega
    · have hie : i = M.length := by have := HMl.out; have := HCN.out; omega
      have HO := Lib.hid (show One w w.heap.size wr 46 2 a i c (pairsC M) by
        have h := hone
        rw [List.take_of_length_le (by omega)] at h
        exact h)
      clear hone hlr hcr hie
      go_wp2
      go_ret
      exact ⟨_, _, _, rfl, HO.out⟩

end Go.Proofs.Ytclblnkeakkdeaa
