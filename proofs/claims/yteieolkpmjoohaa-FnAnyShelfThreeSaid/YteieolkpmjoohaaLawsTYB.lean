/-
  The walk of the table's law AnyShelfThree: it returns true, and nothing that was there is written. No conditions. (Written by wip/tools/ch5_three.py.)
-/
import Derived.Test.YteieolkpmjoohaaHelpE
import Derived.Test.YteieolkpmjoohaaMathLawsS
import Derived.Test.YteieolkpmjoohaaOpenEnt
namespace Go.Proofs.Yteieolkpmjoohaa
open Go.RowKit

set_option maxRecDepth 4000 in
set_option maxHeartbeats 16000000 in
theorem walkFnAnyShelfThree (a1 : Option Addr) (n1 c1 : Nat) (L1 : List En) (a2 : Option Addr) (n2 c2 : Nat) (L2 : List En) (a3 : Option Addr) (n3 c3 : Nat) (L3 : List En) (w : World)
    (w1 : n1 = L1.length ∧ n1 ≤ c1 ∧ c1 ≤ maxLen ∧ (∀ x ∈ L1, (Lit.int .i64 x.1).wf = true ∧ (Lit.int .i64 x.2.1).wf = true ∧ (Lit.int .i64 x.2.2).wf = true) ∧ CellsAt w a1 (entsC L1))
    (w2 : n2 = L2.length ∧ n2 ≤ c2 ∧ c2 ≤ maxLen ∧ (∀ x ∈ L2, (Lit.int .i64 x.1).wf = true ∧ (Lit.int .i64 x.2.1).wf = true ∧ (Lit.int .i64 x.2.2).wf = true) ∧ CellsAt w a2 (entsC L2))
    (w3 : n3 = L3.length ∧ n3 ≤ c3 ∧ c3 ≤ maxLen ∧ (∀ x ∈ L3, (Lit.int .i64 x.1).wf = true ∧ (Lit.int .i64 x.2.1).wf = true ∧ (Lit.int .i64 x.2.2).wf = true) ∧ CellsAt w a3 (entsC L3)) :
    Calls Try.prog 12 #[.slice a1 n1 c1, .slice a2 n2 c2, .slice a3 n3 c3] w fun e w' => e = .returned (.bool true) ∧ Below w.heap.size w w' := by
  have E1 := Lib.hid (show EnAt w a1 n1 c1 L1 from ⟨w1.1, w1.2.1, w1.2.2.2.2⟩)
  have E2 := Lib.hid (show EnAt w a2 n2 c2 L2 from ⟨w2.1, w2.2.1, w2.2.2.2.2⟩)
  have E3 := Lib.hid (show EnAt w a3 n3 c3 L3 from ⟨w3.1, w3.2.1, w3.2.2.2.2⟩)
  have e1 := Lib.hid w1.1
  have e2 := Lib.hid w2.1
  have e3 := Lib.hid w3.1
  clear w1 w2 w3
  by_cases hb1 : 1000 < n1
  · go_enter Try.func12, Try.ntmps12
    go_wp2_with fail
    refine (bigEnts_w true _ _ _ _ _ (decide_eq_true (by omega))).mono ?_
    rintro e w4 ⟨rfl, rfl⟩
    go_wp2_with fail
    refine (alive_any _).mono ?_
    rintro e w5 ⟨rfl, rfl⟩
    go_wp2
    go_ret
    exact ⟨rfl, Below.refl _ _⟩
  by_cases hb2 : 1000 < n2
  · go_enter Try.func12, Try.ntmps12
    go_wp2_with fail
    refine (bigEnts_w false _ _ _ _ _ (decide_eq_false (by omega))).mono ?_
    rintro e w4 ⟨rfl, rfl⟩
    go_wp2_with fail
    refine (bigEnts_w true _ _ _ _ _ (decide_eq_true (by omega))).mono ?_
    rintro e w4 ⟨rfl, rfl⟩
    go_wp2_with fail
    refine (alive_any _).mono ?_
    rintro e w5 ⟨rfl, rfl⟩
    go_wp2
    go_ret
    exact ⟨rfl, Below.refl _ _⟩
  by_cases hb3 : 1000 < n3
  · go_enter Try.func12, Try.ntmps12
    go_wp2_with fail
    refine (bigEnts_w false _ _ _ _ _ (decide_eq_false (by omega))).mono ?_
    rintro e w4 ⟨rfl, rfl⟩
    go_wp2_with fail
    refine (bigEnts_w false _ _ _ _ _ (decide_eq_false (by omega))).mono ?_
    rintro e w4 ⟨rfl, rfl⟩
    go_wp2_with fail
    refine (bigEnts_w true _ _ _ _ _ (decide_eq_true (by omega))).mono ?_
    rintro e w4 ⟨rfl, rfl⟩
    go_wp2_with fail
    refine (alive_any _).mono ?_
    rintro e w5 ⟨rfl, rfl⟩
    go_wp2
    go_ret
    exact ⟨rfl, Below.refl _ _⟩
  have hL1 : L1.length ≤ 1000 := by have := e1.out; omega
  have hL2 : L2.length ≤ 1000 := by have := e2.out; omega
  have hL3 : L3.length ≤ 1000 := by have := e3.out; omega
  have f1 : decide ((1000 : Int) < (n1 : Int)) = false := decide_eq_false (by omega)
  have f2 : decide ((1000 : Int) < (n2 : Int)) = false := decide_eq_false (by omega)
  have f3 : decide ((1000 : Int) < (n3 : Int)) = false := decide_eq_false (by omega)
  obtain ⟨wk0, hw0⟩ : ∃ wk0, wk0 = w := ⟨_, rfl⟩
  subst hw0
  have BK0 : Below wk0.heap.size wk0 wk0 := Below.refl _ _
  have HBW := Lib.hid (show Below wk0.heap.size wk0 wk0 from Below.refl _ _)
  clear hb1 hb2 hb3 e1 e2 e3
  go_enter Try.func12, Try.ntmps12
  go_wp2_with fail
  refine (bigEnts_w false _ _ _ _ _ f1).mono ?_
  rintro e w4 ⟨rfl, rfl⟩
  go_wp2_with fail
  refine (bigEnts_w false _ _ _ _ _ f2).mono ?_
  rintro e w4 ⟨rfl, rfl⟩
  go_wp2_with fail
  refine (bigEnts_w false _ _ _ _ _ f3).mono ?_
  rintro e w4 ⟨rfl, rfl⟩
  clear f1 f2 f3
  by_cases hk1 : shOk L1
  rotate_left
  · have H1 := Lib.hid hk1
    clear hk1
    go_wp2_with fail
    refine (implOk_w false L1 _ _ _ _ ⟨(fun h => absurd h (by decide)), (fun h => absurd h H1.out)⟩ (E1.out.later BK0) (by omega)).mono ?_
    rintro e wk1 ⟨rfl, hx⟩
    have BK1 := BK0.trans (hx.mono BK0.size)
    clear hx BK0
    go_wp2_with fail
    refine (alive_any _).mono ?_
    rintro e w9 ⟨rfl, rfl⟩
    go_wp2
    go_ret
    exact ⟨rfl, HBW.out.trans (BK1.mono HBW.out.size)⟩
  have H1 := Lib.hid hk1
  by_cases hk2 : shOk L2
  rotate_left
  · have H2 := Lib.hid hk2
    clear hk2
    go_wp2_with fail
    refine (implOk_w true L1 _ _ _ _ ⟨fun _ => H1.out, fun _ => rfl⟩ (E1.out.later BK0) (by omega)).mono ?_
    rintro e wk1 ⟨rfl, hx⟩
    have BK1 := BK0.trans (hx.mono BK0.size)
    clear hx BK0
    go_wp2_with fail
    refine (implOk_w false L2 _ _ _ _ ⟨(fun h => absurd h (by decide)), (fun h => absurd h H2.out)⟩ (E2.out.later BK1) (by omega)).mono ?_
    rintro e wk2 ⟨rfl, hx⟩
    have BK2 := BK1.trans (hx.mono BK1.size)
    clear hx BK1
    go_wp2_with fail
    refine (alive_any _).mono ?_
    rintro e w9 ⟨rfl, rfl⟩
    go_wp2
    go_ret
    exact ⟨rfl, HBW.out.trans (BK2.mono HBW.out.size)⟩
  have H2 := Lib.hid hk2
  by_cases hk3 : shOk L3
  rotate_left
  · have H3 := Lib.hid hk3
    clear hk3
    go_wp2_with fail
    refine (implOk_w true L1 _ _ _ _ ⟨fun _ => H1.out, fun _ => rfl⟩ (E1.out.later BK0) (by omega)).mono ?_
    rintro e wk1 ⟨rfl, hx⟩
    have BK1 := BK0.trans (hx.mono BK0.size)
    clear hx BK0
    go_wp2_with fail
    refine (implOk_w true L2 _ _ _ _ ⟨fun _ => H2.out, fun _ => rfl⟩ (E2.out.later BK1) (by omega)).mono ?_
    rintro e wk2 ⟨rfl, hx⟩
    have BK2 := BK1.trans (hx.mono BK1.size)
    clear hx BK1
    go_wp2_with fail
    refine (implOk_w false L3 _ _ _ _ ⟨(fun h => absurd h (by decide)), (fun h => absurd h H3.out)⟩ (E3.out.later BK2) (by omega)).mono ?_
    rintro e wk3 ⟨rfl, hx⟩
    have BK3 := BK2.trans (hx.mono BK2.size)
    clear hx BK2
    go_wp2_with fail
    refine (alive_any _).mono ?_
    rintro e w9 ⟨rfl, rfl⟩
    go_wp2
    go_ret
    exact ⟨rfl, HBW.out.trans (BK3.mono HBW.out.size)⟩
  have H3 := Lib.hid hk3
  have X12 := Lib.hid (joinL_comm L2 L1)
  have X11 := Lib.hid (joinL_self hk1)
  have X10 := Lib.hid (joinL_nil hk1)
  have XL := Lib.hid (loseL_join hk1 hk2)
  have XA := Lib.hid (joinL_assoc hk1 hk2 hk3)
  have J12 := joinL5_len L1 L2
  have J23 := joinL5_len L2 L3
  have J13 := joinL5_len L1 L3
  have JA := joinL5_len L1 (joinL5 L2 L3)
  have HLa := Lib.hid (fun d => loseL_len L1 d)
  have HLb := Lib.hid (fun d => loseL_len L2 d)
  have HLj := Lib.hid (fun d => loseL_len (joinL5 L1 L2) d)
  obtain ⟨R12, hR12⟩ : ∃ R, joinL5 L1 L2 = R := ⟨_, rfl⟩
  obtain ⟨R23, hR23⟩ : ∃ R, joinL5 L2 L3 = R := ⟨_, rfl⟩
  obtain ⟨R13, hR13⟩ : ∃ R, joinL5 L1 L3 = R := ⟨_, rfl⟩
  rw [hR12] at X12 XL XA J12 HLj
  rw [hR23] at XA J23 JA
  rw [hR13] at J13
  obtain ⟨RA, hRA⟩ : ∃ R, joinL5 L1 R23 = R := ⟨_, rfl⟩
  rw [hRA] at XA JA
  have HR12 := Lib.hid hR12
  have HR23 := Lib.hid hR23
  have HR13 := Lib.hid hR13
  have HRA := Lib.hid hRA
  clear hk1 hk2 hk3 hR12 hR23 hR13 hRA
  go_wp2_with fail
  refine (implOk_w true L1 _ _ _ _ ⟨fun _ => H1.out, fun _ => rfl⟩ (E1.out.later BK0) (by omega)).mono ?_
  rintro e wk1 ⟨rfl, hx⟩
  have BK1 := BK0.trans (hx.mono BK0.size)
  clear hx BK0
  go_wp2_with fail
  refine (implOk_w true L2 _ _ _ _ ⟨fun _ => H2.out, fun _ => rfl⟩ (E2.out.later BK1) (by omega)).mono ?_
  rintro e wk2 ⟨rfl, hx⟩
  have BK2 := BK1.trans (hx.mono BK1.size)
  clear hx BK1
  go_wp2_with fail
  refine (implOk_w true L3 _ _ _ _ ⟨fun _ => H3.out, fun _ => rfl⟩ (E3.out.later BK2) (by omega)).mono ?_
  rintro e wk3 ⟨rfl, hx⟩
  have BK3 := BK2.trans (hx.mono BK2.size)
  clear hx BK2
  go_wp2_with fail
  refine (implJoin_w L1 L2 R12 _ _ _ _ _ _ _ HR12.out (E1.out.later BK3) (E2.out.later BK3) (by omega) (by omega)).mono ?_
  rintro e wk4 ⟨xF1, yF1, zF1, rfl, F1, hx⟩
  have BK4 := BK3.trans (hx.mono BK3.size)
  clear hx BK3
  go_wp2_with fail
  refine (implJoin_w L2 L1 R12 _ _ _ _ _ _ _ X12.out (E2.out.later BK4) (E1.out.later BK4) (by omega) (by omega)).mono ?_
  rintro e wk5 ⟨xF2, yF2, zF2, rfl, F2, hx⟩
  have BK5 := BK4.trans (hx.mono BK4.size)
  replace F1 := F1.later hx
  clear hx BK4
  go_wp2_with fail
  refine (sameEnts_w R12 _ _ _ _ _ _ _ F1 F2 (by omega)).mono ?_
  rintro e wk6 ⟨rfl, hx⟩
  have BK6 := BK5.trans (hx.mono BK5.size)
  clear hx BK5
  clear F1 F2
  go_wp2_with fail
  refine (implJoin_w L1 L1 L1 _ _ _ _ _ _ _ X11.out (E1.out.later BK6) (E1.out.later BK6) (by omega) (by omega)).mono ?_
  rintro e wk7 ⟨xF1, yF1, zF1, rfl, F1, hx⟩
  have BK7 := BK6.trans (hx.mono BK6.size)
  clear hx BK6
  go_wp2_with fail
  refine (sameEnts_w L1 _ _ _ _ _ _ _ F1 (E1.out.later BK7) (by omega)).mono ?_
  rintro e wk8 ⟨rfl, hx⟩
  have BK8 := BK7.trans (hx.mono BK7.size)
  clear hx BK7
  clear F1
  go_wp2_with fail
  refine (implJoin_w L1 [] L1 _ _ _ _ _ _ _ X10.out (E1.out.later BK8) (enAt_nil _) (by omega) (by simp)).mono ?_
  rintro e wk9 ⟨xF1, yF1, zF1, rfl, F1, hx⟩
  have BK9 := BK8.trans (hx.mono BK8.size)
  clear hx BK8
  go_wp2_with fail
  refine (sameEnts_w L1 _ _ _ _ _ _ _ F1 (E1.out.later BK9) (by omega)).mono ?_
  rintro e wk10 ⟨rfl, hx⟩
  have BK10 := BK9.trans (hx.mono BK9.size)
  clear hx BK9
  clear F1
  go_wp2
  go_loopw [7] (fun i_ wr => ∃ i : Nat, i ≤ 4 ∧ i_ = .int .i64 i ∧ Below wk0.heap.size wk0 wr) (fun i_ _ => 4 - (intOf i_).toNat)
  case atStart => exact ⟨0, Nat.zero_le _, rfl, BK10⟩
  case round =>
    clear BK10
    obtain ⟨i, hi, rfl, BK0⟩ := hrel
    by_cases hlt : i < 4
    · have z1 : (i : Int) < 4 := by omega
      obtain ⟨R1, hR1⟩ : ∃ R, loseL R12 (i : Int) = R := ⟨_, rfl⟩
      obtain ⟨Ra, hRa⟩ : ∃ R, loseL L1 (i : Int) = R := ⟨_, rfl⟩
      obtain ⟨Rb, hRb⟩ : ∃ R, loseL L2 (i : Int) = R := ⟨_, rfl⟩
      have hX := XL.out (i : Int)
      have l1 := HLj.out (i : Int)
      have l2 := HLa.out (i : Int)
      have l3 := HLb.out (i : Int)
      rw [hR1] at hX l1
      rw [hRa] at hX l2
      rw [hRb] at hX l3
      have HX := Lib.hid hX.symm
      have HR1 := Lib.hid hR1
      have HRa := Lib.hid hRa
      have HRb := Lib.hid hRb
      clear hX hR1 hRa hRb
      go_wp2_with fail
      refine (implJoin_w L1 L2 R12 _ _ _ _ _ _ _ HR12.out (E1.out.later BK0) (E2.out.later BK0) (by omega) (by omega)).mono ?_
      rintro e wk1 ⟨xF1, yF1, zF1, rfl, F1, hx⟩
      have BK1 := BK0.trans (hx.mono BK0.size)
      clear hx BK0
      go_wp2_with fail
      refine (implLose_w R12 _ R1 _ _ _ _ HR1.out F1 (by omega)).mono ?_
      rintro e wk2 ⟨xF2, yF2, zF2, rfl, F2, hx⟩
      have BK2 := BK1.trans (hx.mono BK1.size)
      clear hx BK1
      clear F1
      go_wp2_with fail
      refine (implLose_w L1 _ Ra _ _ _ _ HRa.out (E1.out.later BK2) (by omega)).mono ?_
      rintro e wk3 ⟨xF3, yF3, zF3, rfl, F3, hx⟩
      have BK3 := BK2.trans (hx.mono BK2.size)
      replace F2 := F2.later hx
      clear hx BK2
      go_wp2_with fail
      refine (implLose_w L2 _ Rb _ _ _ _ HRb.out (E2.out.later BK3) (by omega)).mono ?_
      rintro e wk4 ⟨xF4, yF4, zF4, rfl, F4, hx⟩
      have BK4 := BK3.trans (hx.mono BK3.size)
      replace F2 := F2.later hx
      replace F3 := F3.later hx
      clear hx BK3
      go_wp2_with fail
      refine (implJoin_w Ra Rb R1 _ _ _ _ _ _ _ HX.out F3 F4 (by omega) (by omega)).mono ?_
      rintro e wk5 ⟨xF5, yF5, zF5, rfl, F5, hx⟩
      have BK5 := BK4.trans (hx.mono BK4.size)
      replace F2 := F2.later hx
      clear hx BK4
      clear F3 F4
      go_wp2_with fail
      refine (sameEnts_w R1 _ _ _ _ _ _ _ F2 F5 (by omega)).mono ?_
      rintro e wk6 ⟨rfl, hx⟩
      have BK6 := BK5.trans (hx.mono BK5.size)
      clear hx BK5
      clear F2 F5
      go_wp2
      go_roundw
      case rel => exact ⟨i + 1, by omega, by go_num, BK6⟩
      case measure => simp [intOf]; omega
    · have z1 : ¬ (i : Int) < 4 := by omega
      go_wp2_with fail
      refine (implJoin_w L1 L2 R12 _ _ _ _ _ _ _ HR12.out (E1.out.later BK0) (E2.out.later BK0) (by omega) (by omega)).mono ?_
      rintro e wk1 ⟨xF1, yF1, zF1, rfl, F1, hx⟩
      have BK1 := BK0.trans (hx.mono BK0.size)
      clear hx BK0
      go_wp2_with fail
      refine (implJoin_w R12 L3 RA _ _ _ _ _ _ _ XA.out F1 (E3.out.later BK1) (by omega) (by omega)).mono ?_
      rintro e wk2 ⟨xF2, yF2, zF2, rfl, F2, hx⟩
      have BK2 := BK1.trans (hx.mono BK1.size)
      clear hx BK1
      clear F1
      go_wp2_with fail
      refine (implJoin_w L2 L3 R23 _ _ _ _ _ _ _ HR23.out (E2.out.later BK2) (E3.out.later BK2) (by omega) (by omega)).mono ?_
      rintro e wk3 ⟨xF3, yF3, zF3, rfl, F3, hx⟩
      have BK3 := BK2.trans (hx.mono BK2.size)
      replace F2 := F2.later hx
      clear hx BK2
      go_wp2_with fail
      refine (implJoin_w L1 R23 RA _ _ _ _ _ _ _ HRA.out (E1.out.later BK3) F3 (by omega) (by omega)).mono ?_
      rintro e wk4 ⟨xF4, yF4, zF4, rfl, F4, hx⟩
      have BK4 := BK3.trans (hx.mono BK3.size)
      replace F2 := F2.later hx
      clear hx BK3
      clear F3
      go_wp2_with fail
      refine (sameEnts_w RA _ _ _ _ _ _ _ F2 F4 (by omega)).mono ?_
      rintro e wk5 ⟨rfl, hx⟩
      have BK5 := BK4.trans (hx.mono BK4.size)
      clear hx BK4
      clear F2 F4
      go_wp2_with fail
      refine (implJoin_w L1 L3 R13 _ _ _ _ _ _ _ HR13.out (E1.out.later BK5) (E3.out.later BK5) (by omega) (by omega)).mono ?_
      rintro e wk6 ⟨xF1, yF1, zF1, rfl, F1, hx⟩
      have BK6 := BK5.trans (hx.mono BK5.size)
      clear hx BK5
      go_wp2_with fail
      refine (specJoin_w L1 L3 R13 _ _ _ _ _ _ _ HR13.out (E1.out.later BK6) (E3.out.later BK6) (by omega) (by omega)).mono ?_
      rintro e wk7 ⟨xF2, yF2, zF2, rfl, F2, hx⟩
      have BK7 := BK6.trans (hx.mono BK6.size)
      replace F1 := F1.later hx
      clear hx BK6
      go_wp2_with fail
      refine (sameEnts_w R13 _ _ _ _ _ _ _ F1 F2 (by omega)).mono ?_
      rintro e wk8 ⟨rfl, hx⟩
      have BK8 := BK7.trans (hx.mono BK7.size)
      clear hx BK7
      clear F1 F2
      go_wp2_with fail
      refine (alive_any _).mono ?_
      rintro e w9 ⟨rfl, rfl⟩
      go_wp2
      go_ret
      exact ⟨rfl, HBW.out.trans (BK8.mono HBW.out.size)⟩

end Go.Proofs.Yteieolkpmjoohaa
