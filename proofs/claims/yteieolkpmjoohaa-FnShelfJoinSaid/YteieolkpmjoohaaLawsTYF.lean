/-
  The walk of the table's law ShelfJoin: it returns true, and nothing that was there is written. No conditions. (Written by wip/tools/ch5_find.py.)
-/
import Derived.Test.YteieolkpmjoohaaHelpE
import Derived.Test.YteieolkpmjoohaaMathLawsS
namespace Go.Proofs.Yteieolkpmjoohaa
open Go.RowKit

/-- The answer so far: an entry is among the first ones. -/
def inTo (x : En) (R : List En) (j : Nat) : Bool := decide (x ∈ R.take j)
theorem inTo_zero (x : En) (R : List En) : inTo x R 0 = false := by simp [inTo]
theorem inTo_yes {x : En} {R : List En} {j : Nat} (hj : j < R.length) (h : R[j] = x) : inTo x R (j + 1) = true := by
  rw [inTo, List.take_succ_eq_append_getElem hj, decide_eq_true_iff, List.mem_append, h]; simp
theorem inTo_no {x : En} {R : List En} {j : Nat} (hj : j < R.length) (h : R[j] ≠ x) (hb : inTo x R j = false) : inTo x R (j + 1) = false := by
  rw [inTo, decide_eq_false_iff_not] at hb ⊢
  rw [List.take_succ_eq_append_getElem hj, List.mem_append, List.mem_singleton]
  rintro (h1 | h1)
  · exact hb h1
  · exact h h1.symm
theorem inTo_more {x : En} {R : List En} {j : Nat} (hb : inTo x R j = true) : inTo x R (j + 1) = true := by
  rw [inTo, decide_eq_true_iff] at hb ⊢
  exact List.mem_of_mem_take (i := j) (by rw [List.take_take, Nat.min_eq_left (Nat.le_succ _)]; exact hb)
theorem inTo_all {x : En} {R : List En} {j : Nat} (hx : x ∈ R) (hj : R.length ≤ j) : inTo x R j = true := by
  rw [inTo, decide_eq_true_iff, List.take_of_length_le hj]; exact hx
theorem en_parts {x y z x' y' z' : Int} (he : ¬ (x, y, z) = (x', y', z')) : (x == x') = false ∨ (x == x') = true ∧ ((y == y') = false ∨ (y == y') = true ∧ (z == z') = false) := by
  by_cases h1 : x = x'
  · by_cases h2 : y = y'
    · by_cases h3 : z = z'
      · exact absurd (by rw [h1, h2, h3]) he
      · exact .inr ⟨by simpa using h1, .inr ⟨by simpa using h2, by simpa using h3⟩⟩
    · exact .inr ⟨by simpa using h1, .inl (by simpa using h2)⟩
  · exact .inl (by simpa using h1)

set_option maxRecDepth 4000 in
set_option maxHeartbeats 16000000 in
theorem walkFnShelfJoin (a : Option Addr) (len cap : Nat) (zs : List Int) (w : World) (h : IsRowK .u8 w a len cap zs) :
    Calls Try.prog 6 #[.slice a len cap] w fun e w' => e = .returned (.bool true) ∧ Below w.heap.size w w' := by
  by_cases hs : 1048576 < len
  · have h2 : (1048576 : Int) < (len : Int) := by omega
    go_enter Try.func6, Try.ntmps6
    go_wp2
    go_ret
    exact ⟨rfl, Below.refl _ _⟩
  go_enter Try.func6, Try.ntmps6
  go_wp2_with fail
  refine (DrawShelfJoin_any _ _ _ _ _ h).mono ?_
  rintro e wk0 ⟨L1, L2, a1, n1, c1, a2, n2, c2, rfl, hL1, hL2, hE1, hE2, hbw⟩
  have HN1 := Lib.hid hE1.len
  have HN2 := Lib.hid hE2.len
  have E1 := Lib.hid hE1
  have E2 := Lib.hid hE2
  have HBW := Lib.hid hbw
  have BK0 : Below wk0.heap.size wk0 wk0 := Below.refl _ _
  have hR9 := joinL5_len L1 L2
  have HRok := Lib.hid (shOk_joinL L1 L2)
  have HNo := Lib.hid (fun (h : ¬ (shOk L1 ∧ shOk L2)) => joinL5_not h)
  have HMem := Lib.hid (fun (h1 : shOk L1) (h2 : shOk L2) x => joinL_mem h1 h2 x)
  obtain ⟨R, hR⟩ : ∃ R, joinL5 L1 L2 = R := ⟨_, rfl⟩
  rw [hR] at hR9 HRok HNo HMem
  have HR := Lib.hid hR
  have hn1 : n1 ≤ 40 := by have := HN1.out; omega
  have hn2 : n2 ≤ 40 := by have := HN2.out; omega
  clear h hE1 hE2 hbw hs hR
  go_wp2_with fail
  refine (implJoin_w L1 L2 R _ _ _ _ _ _ _ HR.out (E1.out.later BK0) (E2.out.later BK0) (by omega) (by omega)).mono ?_
  rintro e wk1 ⟨aF1, nF1, cF1, rfl, F1, hx⟩
  have BK1 := BK0.trans (hx.mono BK0.size)
  clear hx BK0
  go_wp2_with fail
  refine (specJoin_w L1 L2 R _ _ _ _ _ _ _ HR.out (E1.out.later BK1) (E2.out.later BK1) (by omega) (by omega)).mono ?_
  rintro e wk2 ⟨aF2, nF2, cF2, rfl, F2, hx⟩
  have BK2 := BK1.trans (hx.mono BK1.size)
  replace F1 := F1.later hx
  clear hx BK1
  go_wp2_with fail
  refine (sameEnts_w R _ _ _ _ _ _ _ F1 F2 (by omega)).mono ?_
  rintro e wk3 ⟨rfl, hx⟩
  have BK3 := BK2.trans (hx.mono BK2.size)
  replace F1 := F1.later hx
  replace F2 := F2.later hx
  clear hx BK2
  clear F2
  go_wp2_with fail
  refine (implOk_w true R _ _ _ _ ⟨fun _ => HRok.out, fun _ => rfl⟩ F1 (by omega)).mono ?_
  rintro e wk4 ⟨rfl, hx⟩
  have BK4 := BK3.trans (hx.mono BK3.size)
  replace F1 := F1.later hx
  clear hx BK3
  by_cases hk1 : shOk L1
  rotate_left
  · have H1 := Lib.hid hk1
    have hz : nF1 = 0 := by rw [F1.len, HNo.out (fun h => hk1 h.1)]; rfl
    subst hz
    clear hk1
    go_wp2_with fail
    refine (implOk_w false L1 _ _ _ _ ⟨(fun h => absurd h (by decide)), (fun h => absurd h H1.out)⟩ (E1.out.later BK4) (by omega)).mono ?_
    rintro e wk5 ⟨rfl, hx⟩
    have BK5 := BK4.trans (hx.mono BK4.size)
    replace F1 := F1.later hx
    clear hx BK4
    go_wp2_with fail
    refine (alive_any _).mono ?_
    rintro e wq ⟨rfl, rfl⟩
    go_wp2
    go_ret
    exact ⟨rfl, HBW.out.trans (BK5.mono HBW.out.size)⟩
  have H1 := Lib.hid hk1
  by_cases hk2 : shOk L2
  rotate_left
  · have H2 := Lib.hid hk2
    have hz : nF1 = 0 := by rw [F1.len, HNo.out (fun h => hk2 h.2)]; rfl
    subst hz
    clear hk2
    go_wp2_with fail
    refine (implOk_w true L1 _ _ _ _ ⟨fun _ => H1.out, fun _ => rfl⟩ (E1.out.later BK4) (by omega)).mono ?_
    rintro e wk5 ⟨rfl, hx⟩
    have BK5 := BK4.trans (hx.mono BK4.size)
    replace F1 := F1.later hx
    clear hx BK4
    go_wp2_with fail
    refine (implOk_w false L2 _ _ _ _ ⟨(fun h => absurd h (by decide)), (fun h => absurd h H2.out)⟩ (E2.out.later BK5) (by omega)).mono ?_
    rintro e wk6 ⟨rfl, hx⟩
    have BK6 := BK5.trans (hx.mono BK5.size)
    replace F1 := F1.later hx
    clear hx BK5
    go_wp2_with fail
    refine (alive_any _).mono ?_
    rintro e wq ⟨rfl, rfl⟩
    go_wp2
    go_ret
    exact ⟨rfl, HBW.out.trans (BK6.mono HBW.out.size)⟩
  have H2 := Lib.hid hk2
  have HMm := Lib.hid (HMem.out hk1 hk2)
  clear hk1 hk2
  go_wp2_with fail
  refine (implOk_w true L1 _ _ _ _ ⟨fun _ => H1.out, fun _ => rfl⟩ (E1.out.later BK4) (by omega)).mono ?_
  rintro e wk5 ⟨rfl, hx⟩
  have BK5 := BK4.trans (hx.mono BK4.size)
  replace F1 := F1.later hx
  clear hx BK4
  go_wp2_with fail
  refine (implOk_w true L2 _ _ _ _ ⟨fun _ => H2.out, fun _ => rfl⟩ (E2.out.later BK5) (by omega)).mono ?_
  rintro e wk6 ⟨rfl, hx⟩
  have BK6 := BK5.trans (hx.mono BK5.size)
  replace F1 := F1.later hx
  clear hx BK5
  obtain ⟨wb, hwb⟩ : ∃ wb, wb = wk6 := ⟨_, rfl⟩
  subst hwb
  have HF := Lib.hid F1
  have HBB := Lib.hid BK6
  have HNF := Lib.hid F1.len
  have hnf9 : nF1 ≤ 80 := by have := HNF.out; omega
  have HC1 := Lib.hid (E1.out.later BK6).at_
  have HC2 := Lib.hid (E2.out.later BK6).at_
  have HL1 := Lib.hid (show (entsC L1).length = n1 * 3 by rw [entsC_len, HN1.out])
  have HL2 := Lib.hid (show (entsC L2).length = n2 * 3 by rw [entsC_len, HN2.out])
  clear F1 BK6
  go_wp2_with (at_builtin; first
    | (refine wpList_append_src rfl (.tmp 49) (.tmp 50) 30 rfl Try.ulE5 Try.infoE5 rfl (by decide) (One.empty wb 24 3) rfl a1 n1 c1 rfl (entsC L1) HL1.out (HC1.out.allocW _) (entsC_one _) (by unfold maxLen; omega) (by omega) ?_; intro a5 c5 w5 h5; simp only [Nat.zero_add, List.nil_append] at h5 ⊢)
    | (refine wpList_append_src rfl (.tmp 51) (.tmp 52) 30 rfl Try.ulE5 Try.infoE5 rfl (by decide) h5 rfl a2 n2 c2 rfl (entsC L2) HL2.out (HC2.out.below h5.below) (entsC_one _) (by unfold maxLen; omega) (by omega) ?_; intro a6 c6 w6 h6))
  have hB6 : EnAt w6 a6 (n1 + n2) c6 (L1 ++ L2) := enAt_of (by have h := h6.own; rw [← entsC_append] at h; exact h)
  obtain ⟨nb, hnb⟩ : ∃ nb, n1 + n2 = nb := ⟨_, rfl⟩
  rw [hnb] at hB6 ⊢
  have hnb9 : nb ≤ 80 := by omega
  have HO := Lib.hid (HF.out.later h6.below)
  have HB := Lib.hid hB6
  have HNB := Lib.hid hB6.len
  have HB6 := Lib.hid (show Below w.heap.size w w6 from (HBW.out.trans (HBB.out.mono HBW.out.size)).trans (h6.below.mono (HBW.out.trans (HBB.out.mono HBW.out.size)).size))
  obtain ⟨X, hX⟩ : ∃ X, L1 ++ L2 = X := ⟨_, rfl⟩
  rw [hX] at HB HNB HMm
  clear h5 h6 hB6 hnb hX HC1 HC2 HL1 HL2
  go_wp2
  go_loopw [7] (fun i_ wr => ∃ i : Nat, i ≤ nb ∧ i_ = .int .i64 i ∧ ∃ q, wr = w6.drewN q) (fun i_ _ => nb - (intOf i_).toNat)
  case atStart => exact ⟨0, Nat.zero_le _, rfl, 0, rfl⟩
  case round =>
    obtain ⟨i, hi, rfl, q, rfl⟩ := hrel
    by_cases hli : i < nb
    · have hiP : i < X.length := by have := HNB.out; omega
      obtain ⟨x, hx⟩ : ∃ x, X[i].1 = x := ⟨_, rfl⟩
      obtain ⟨y, hy⟩ : ∃ y, X[i].2.1 = y := ⟨_, rfl⟩
      obtain ⟨z, hz⟩ : ∃ z, X[i].2.2 = z := ⟨_, rfl⟩
      have hm : X[i] = (x, y, z) := by rw [← hx, ← hy, ← hz]
      have HIn := Lib.hid (show (x, y, z) ∈ R from (HMm.out _).2 (by rw [← hm]; exact List.getElem_mem hiP))
      have HM := Lib.hid hm
      obtain ⟨pb, po, rfl, _, g1, g2, g3⟩ := ent_cells HB.out.at_ hiP hm
      have y1 : (i : Int) < (nb : Int) := by omega
      have y0 : (0 : Int) ≤ (i : Int) := by omega
      clear hx hy hz hm
      go_wp2
      go_loopw [8, 9] (fun b_ j_ wr => ∃ (j : Nat) (b : Bool), j ≤ nF1 ∧ j_ = .int .i64 j ∧ b_ = .bool b ∧ Hid (b = inTo (x, y, z) R j) ∧ ∃ q, wr = w6.drewN q) (fun _ j_ _ => nF1 - (intOf j_).toNat)
      case atStart => exact ⟨0, false, Nat.zero_le _, rfl, rfl, Lib.hid (inTo_zero _ _).symm, _, rfl⟩
      case round =>
        obtain ⟨j, b, hj, rfl, rfl, HBv, q, rfl⟩ := hrel
        by_cases hlj : j < nF1
        · have hjQ : j < R.length := by have := HNF.out; omega
          obtain ⟨x', hx⟩ : ∃ x, R[j].1 = x := ⟨_, rfl⟩
          obtain ⟨y', hy⟩ : ∃ y, R[j].2.1 = y := ⟨_, rfl⟩
          obtain ⟨z', hz⟩ : ∃ z, R[j].2.2 = z := ⟨_, rfl⟩
          have hm : R[j] = (x', y', z') := by rw [← hx, ← hy, ← hz]
          obtain ⟨qb, qo, rfl, _, k1, k2, k3⟩ := ent_cells HO.out.at_ hjQ hm
          have HMQ := Lib.hid hm
          have y3 : (j : Int) < (nF1 : Int) := by omega
          have y4 : (0 : Int) ≤ (j : Int) := by omega
          clear hx hy hz hm
          cases b with
          | true =>
            have HB2 := Lib.hid (inTo_more HBv.out.symm)
            go_wp2
            go_quiet (fail)
            go_wp2
            go_roundw
            case rel => exact ⟨j + 1, true, by omega, by go_num, rfl, Lib.hid HB2.out.symm, _, rfl⟩
            case measure => simp [intOf]; omega
          | false =>
            by_cases he : (x', y', z') = (x, y, z)
            · have HB2 := Lib.hid (inTo_yes (x := (x, y, z)) hjQ (by rw [HMQ.out]; exact he))
              simp only [Prod.mk.injEq] at he
              obtain ⟨rfl, rfl, rfl⟩ := he
              have tx : (x' == x') = true := beq_self_eq_true _
              have ty : (y' == y') = true := beq_self_eq_true _
              have tz : (z' == z') = true := beq_self_eq_true _
              go_wp2
              go_quiet (fail)
              go_wp2
              go_roundw
              case rel => exact ⟨j + 1, true, by omega, by go_num, rfl, Lib.hid HB2.out.symm, _, rfl⟩
              case measure => simp [intOf]; omega
            · have HB2 := Lib.hid (inTo_no (x := (x, y, z)) hjQ (by rw [HMQ.out]; exact he) HBv.out.symm)
              have hcase := en_parts he
              clear he
              rcases hcase with t1 | ⟨t1, t2 | ⟨t2, t3⟩⟩
              all_goals (
                go_wp2
                go_quiet (fail)
                go_wp2
                go_roundw
                case rel => exact ⟨j + 1, false, by omega, by go_num, rfl, Lib.hid HB2.out.symm, _, rfl⟩
                case measure => simp [intOf]; omega)
        · have hbt : b = true := HBv.out.trans (inTo_all HIn.out (by have := HNF.out; omega))
          subst hbt
          go_wp2
          go_roundw
          case rel => exact ⟨i + 1, by omega, by go_num, _, rfl⟩
          case measure => simp [intOf]; omega
    · skip
      go_wp2
      go_loopw [10] (fun i_ wr => ∃ i : Nat, i ≤ nF1 ∧ i_ = .int .i64 i ∧ ∃ q, wr = w6.drewN q) (fun i_ _ => nF1 - (intOf i_).toNat)
      case atStart => exact ⟨0, Nat.zero_le _, rfl, _, rfl⟩
      case round =>
        obtain ⟨i, hi, rfl, q, rfl⟩ := hrel
        by_cases hli : i < nF1
        · have hiP : i < R.length := by have := HNF.out; omega
          obtain ⟨x, hx⟩ : ∃ x, R[i].1 = x := ⟨_, rfl⟩
          obtain ⟨y, hy⟩ : ∃ y, R[i].2.1 = y := ⟨_, rfl⟩
          obtain ⟨z, hz⟩ : ∃ z, R[i].2.2 = z := ⟨_, rfl⟩
          have hm : R[i] = (x, y, z) := by rw [← hx, ← hy, ← hz]
          have HIn := Lib.hid (show (x, y, z) ∈ X from (HMm.out _).1 (by rw [← hm]; exact List.getElem_mem hiP))
          have HM := Lib.hid hm
          obtain ⟨pb, po, rfl, _, g1, g2, g3⟩ := ent_cells HO.out.at_ hiP hm
          have y1 : (i : Int) < (nF1 : Int) := by omega
          have y0 : (0 : Int) ≤ (i : Int) := by omega
          clear hx hy hz hm
          go_wp2
          go_loopw [11, 12] (fun b_ j_ wr => ∃ (j : Nat) (b : Bool), j ≤ nb ∧ j_ = .int .i64 j ∧ b_ = .bool b ∧ Hid (b = inTo (x, y, z) X j) ∧ ∃ q, wr = w6.drewN q) (fun _ j_ _ => nb - (intOf j_).toNat)
          case atStart => exact ⟨0, false, Nat.zero_le _, rfl, rfl, Lib.hid (inTo_zero _ _).symm, _, rfl⟩
          case round =>
            obtain ⟨j, b, hj, rfl, rfl, HBv, q, rfl⟩ := hrel
            by_cases hlj : j < nb
            · have hjQ : j < X.length := by have := HNB.out; omega
              obtain ⟨x', hx⟩ : ∃ x, X[j].1 = x := ⟨_, rfl⟩
              obtain ⟨y', hy⟩ : ∃ y, X[j].2.1 = y := ⟨_, rfl⟩
              obtain ⟨z', hz⟩ : ∃ z, X[j].2.2 = z := ⟨_, rfl⟩
              have hm : X[j] = (x', y', z') := by rw [← hx, ← hy, ← hz]
              obtain ⟨qb, qo, rfl, _, k1, k2, k3⟩ := ent_cells HB.out.at_ hjQ hm
              have HMQ := Lib.hid hm
              have y3 : (j : Int) < (nb : Int) := by omega
              have y4 : (0 : Int) ≤ (j : Int) := by omega
              clear hx hy hz hm
              cases b with
              | true =>
                have HB2 := Lib.hid (inTo_more HBv.out.symm)
                go_wp2
                go_quiet (fail)
                go_wp2
                go_roundw
                case rel => exact ⟨j + 1, true, by omega, by go_num, rfl, Lib.hid HB2.out.symm, _, rfl⟩
                case measure => simp [intOf]; omega
              | false =>
                by_cases he : (x', y', z') = (x, y, z)
                · have HB2 := Lib.hid (inTo_yes (x := (x, y, z)) hjQ (by rw [HMQ.out]; exact he))
                  simp only [Prod.mk.injEq] at he
                  obtain ⟨rfl, rfl, rfl⟩ := he
                  have tx : (x' == x') = true := beq_self_eq_true _
                  have ty : (y' == y') = true := beq_self_eq_true _
                  have tz : (z' == z') = true := beq_self_eq_true _
                  go_wp2
                  go_quiet (fail)
                  go_wp2
                  go_roundw
                  case rel => exact ⟨j + 1, true, by omega, by go_num, rfl, Lib.hid HB2.out.symm, _, rfl⟩
                  case measure => simp [intOf]; omega
                · have HB2 := Lib.hid (inTo_no (x := (x, y, z)) hjQ (by rw [HMQ.out]; exact he) HBv.out.symm)
                  have hcase := en_parts (fun h => he h.symm)
                  clear he
                  rcases hcase with t1 | ⟨t1, t2 | ⟨t2, t3⟩⟩
                  all_goals (
                    go_wp2
                    go_quiet (fail)
                    go_wp2
                    go_roundw
                    case rel => exact ⟨j + 1, false, by omega, by go_num, rfl, Lib.hid HB2.out.symm, _, rfl⟩
                    case measure => simp [intOf]; omega)
            · have hbt : b = true := HBv.out.trans (inTo_all HIn.out (by have := HNB.out; omega))
              subst hbt
              go_wp2
              go_roundw
              case rel => exact ⟨i + 1, by omega, by go_num, _, rfl⟩
              case measure => simp [intOf]; omega
        · go_wp2_with fail
          refine (alive_any _).mono ?_
          rintro e wq ⟨rfl, rfl⟩
          go_wp2
          go_ret
          exact ⟨rfl, below_drewN' HB6.out _⟩

end Go.Proofs.Yteieolkpmjoohaa
