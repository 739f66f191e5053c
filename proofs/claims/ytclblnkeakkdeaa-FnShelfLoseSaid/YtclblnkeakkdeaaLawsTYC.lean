/-
  The walk of the table's law ShelfLose: it returns true, and nothing that was there is written. No conditions. (Written by wip/tools/ch5_lose.py.)
-/
import Derived.Test.YtclblnkeakkdeaaHelpE
import Derived.Test.YtclblnkeakkdeaaMathLawsS
namespace Go.Proofs.Ytclblnkeakkdeaa
open Go.RowKit

set_option maxRecDepth 4000 in
set_option maxHeartbeats 16000000 in
theorem walkFnShelfLose (a : Option Addr) (len cap : Nat) (zs : List Int) (w : World) (h : IsRowK .u8 w a len cap zs) :
    Calls Try.prog 3 #[.slice a len cap] w fun e w' => e = .returned (.bool true) ∧ Below w.heap.size w w' := by
  by_cases hs : 1048576 < len
  · have h2 : (1048576 : Int) < (len : Int) := by omega
    go_enter Try.func3, Try.ntmps3
    go_wp2
    go_ret
    exact ⟨rfl, Below.refl _ _⟩
  go_enter Try.func3, Try.ntmps3
  go_wp2_with fail
  refine (DrawShelfLose_any _ _ _ _ _ h).mono ?_
  rintro e wk0 ⟨L, a1, n1, c1, d, rfl, hL, hE1, hbw⟩
  have hn1 := hE1.len
  have hn9 : n1 ≤ 40 := by omega
  have HN := Lib.hid hn1
  have E1 := Lib.hid hE1
  have HBW := Lib.hid hbw
  have BK0 : Below wk0.heap.size wk0 wk0 := Below.refl _ _
  have hR9 := loseL_len L d
  have HRok := Lib.hid (shOk_loseL L d)
  have HAg := Lib.hid (loseL_again L d)
  have HDl := Lib.hid (docs_lost L d)
  have HC := Lib.hid (fun h => loseL_count L d h)
  have HNo := Lib.hid (fun (h : ¬ shOk L) => loseL_not h d)
  obtain ⟨R, hR⟩ : ∃ R, loseL L d = R := ⟨_, rfl⟩
  rw [hR] at hR9 HRok HAg HDl HC HNo
  have HR := Lib.hid hR
  clear h hE1 hbw hs hR hn1
  go_wp2_with fail
  refine (implLose_w L d R _ _ _ _ HR.out (E1.out.later BK0) (by omega)).mono ?_
  rintro e wk1 ⟨aF1, nF1, cF1, rfl, F1, hx⟩
  have BK1 := BK0.trans (hx.mono BK0.size)
  clear hx BK0
  go_wp2_with fail
  refine (specLose_w L d R _ _ _ _ HR.out (E1.out.later BK1) (by omega)).mono ?_
  rintro e wk2 ⟨aF2, nF2, cF2, rfl, F2, hx⟩
  have BK2 := BK1.trans (hx.mono BK1.size)
  replace F1 := F1.later hx
  clear hx BK1
  go_wp2_with fail
  refine (sameEnts_w R _ _ _ _ _ _ _ F1 F2 (by omega)).mono ?_
  rintro e wk3 ⟨rfl, hx⟩
  have BK3 := BK2.trans (hx.mono BK2.size)
  replace F1 := F1.later hx
  replace F2 := F2.later hx
  clear hx BK2
  clear F2
  go_wp2_with fail
  refine (implOk_w true R _ _ _ _ ⟨fun _ => HRok.out, fun _ => rfl⟩ F1 (by omega)).mono ?_
  rintro e wk4 ⟨rfl, hx⟩
  have BK4 := BK3.trans (hx.mono BK3.size)
  replace F1 := F1.later hx
  clear hx BK3
  by_cases hok : shOk L
  rotate_left
  · have HK := Lib.hid hok
    have hz : nF1 = 0 := by rw [F1.len, HNo.out hok]; rfl
    subst hz
    clear hok
    go_wp2_with fail
    refine (implOk_w false L _ _ _ _ ⟨(fun h => absurd h (by decide)), (fun h => absurd h HK.out)⟩ (E1.out.later BK4) (by omega)).mono ?_
    rintro e wk5 ⟨rfl, hx⟩
    have BK5 := BK4.trans (hx.mono BK4.size)
    replace F1 := F1.later hx
    clear hx BK4
    go_wp2_with fail
    refine (alive_any _).mono ?_
    rintro e wq ⟨rfl, rfl⟩
    go_wp2
    go_ret
    exact ⟨rfl, HBW.out.trans (BK5.mono HBW.out.size)⟩
  have HK := Lib.hid hok
  have HCn := Lib.hid (HC.out hok)
  clear hok
  go_wp2_with fail
  refine (implOk_w true L _ _ _ _ ⟨fun _ => HK.out, fun _ => rfl⟩ (E1.out.later BK4) (by omega)).mono ?_
  rintro e wk5 ⟨rfl, hx⟩
  have BK5 := BK4.trans (hx.mono BK4.size)
  replace F1 := F1.later hx
  clear hx BK4
  have HF := Lib.hid F1
  clear F1
  go_wp2
  go_loopw [6, 7] (fun q_ k_ wr => ∃ k q : Nat, k ≤ n1 ∧ q ≤ k ∧ q_ = .int .i64 q ∧ k_ = .int .i64 k ∧ Hid (q = ((L.take k).filter (fun x => x.2.1 == d)).length) ∧ Hid (wr = wk5)) (fun _ k_ _ => n1 - (intOf k_).toNat)
  case atStart => exact ⟨0, 0, Nat.zero_le _, Nat.le_refl _, rfl, rfl, Lib.hid (by simp), Lib.hid rfl⟩
  case round =>
    obtain ⟨k, q, hk, hqk, rfl, rfl, HQ, HW⟩ := hrel
    obtain rfl := HW.out
    by_cases hlt : k < n1
    · have hkl : k < L.length := by have := HN.out; omega
      obtain ⟨x, hx⟩ : ∃ x, L[k].1 = x := ⟨_, rfl⟩
      obtain ⟨y, hy⟩ : ∃ y, L[k].2.1 = y := ⟨_, rfl⟩
      obtain ⟨z, hz⟩ : ∃ z, L[k].2.2 = z := ⟨_, rfl⟩
      have hm : L[k] = (x, y, z) := by rw [← hx, ← hy, ← hz]
      obtain ⟨b, o, rfl, hb9, g1, g2, g3⟩ := ent_cells (E1.out.later BK5).at_ hkl hm
      have hyes := filter_yes (P := fun x => x.2.1 == d) hkl
      have hno := filter_no (P := fun x => x.2.1 == d) hkl
      rw [hm] at hyes hno
      have z1 : (k : Int) < (n1 : Int) := by omega
      have z0 : (0 : Int) ≤ (k : Int) := by omega
      clear hx hy hz hm
      by_cases hd : y = d
      · have t1 : (y == d) = true := by rw [hd]; exact beq_self_eq_true _
        have HQ2 := Lib.hid (show q + 1 = ((L.take (k + 1)).filter (fun x => x.2.1 == d)).length by rw [hyes t1, List.length_append, ← HQ.out]; rfl)
        clear hyes hno hd HQ
        go_wp2
        go_roundw
        case rel => exact ⟨k + 1, q + 1, by omega, by omega, by go_num, by go_num, HQ2, Lib.hid (by trivial)⟩
        case measure => simp [intOf]; omega
      · have t1 : (y == d) = false := by simpa using hd
        have HQ2 := Lib.hid (show q = ((L.take (k + 1)).filter (fun x => x.2.1 == d)).length by rw [hno t1]; exact HQ.out)
        clear hyes hno hd HQ
        go_wp2
        go_roundw
        case rel => exact ⟨k + 1, q, by omega, by omega, rfl, by go_num, HQ2, Lib.hid (by trivial)⟩
        case measure => simp [intOf]; omega
    · have hq : q = (L.filter (fun x => x.2.1 == d)).length := by
        have h := HQ.out
        rwa [List.take_of_length_le (by have := HN.out; omega)] at h
      have hnf := HF.out.len
      have hcn := HCn.out
      have t1 : ((nF1 : Int) == (n1 : Int) - (q : Int)) = true := by
        rw [beq_iff_eq]
        have := HN.out
        omega
      have F1 := HF.out
      have hnf9 : nF1 ≤ 40 := by omega
      obtain ⟨D, hD⟩ : ∃ D, docsL5 R = D := ⟨_, rfl⟩
      have HD := Lib.hid hD
      have hD9 : D.length ≤ R.length := by rw [← hD]; exact docsL5_len R
      rw [hD] at HDl
      clear hq hnf hcn hD HF
      go_wp2_with fail
      refine (implDocs_w R D _ _ _ _ HD.out F1 (by omega)).mono ?_
      rintro e wk6 ⟨aF3, nF3, cF3, rfl, F3, hx⟩
      have BK6 := BK5.trans (hx.mono BK5.size)
      replace F1 := F1.later hx
      clear hx BK5
      go_wp2_with fail
      refine (hasInt_w false D d _ _ _ _ ⟨(fun h => absurd h (by decide)), (fun h => absurd h HDl.out)⟩ F3 (by omega)).mono ?_
      rintro e wk7 ⟨rfl, hx⟩
      have BK7 := BK6.trans (hx.mono BK6.size)
      replace F1 := F1.later hx
      replace F3 := F3.later hx
      clear hx BK6
      clear F3
      go_wp2_with fail
      refine (implLose_w R d R _ _ _ _ HAg.out F1 (by omega)).mono ?_
      rintro e wk8 ⟨aF4, nF4, cF4, rfl, F4, hx⟩
      have BK8 := BK7.trans (hx.mono BK7.size)
      replace F1 := F1.later hx
      clear hx BK7
      go_wp2_with fail
      refine (sameEnts_w R _ _ _ _ _ _ _ F4 F1 (by omega)).mono ?_
      rintro e wk9 ⟨rfl, hx⟩
      have BK9 := BK8.trans (hx.mono BK8.size)
      replace F1 := F1.later hx
      replace F4 := F4.later hx
      clear hx BK8
      clear F1
      clear F4
      go_wp2_with fail
      refine (alive_any _).mono ?_
      rintro e wq ⟨rfl, rfl⟩
      go_wp2
      go_ret
      exact ⟨rfl, HBW.out.trans (BK9.mono HBW.out.size)⟩

end Go.Proofs.Ytclblnkeakkdeaa
