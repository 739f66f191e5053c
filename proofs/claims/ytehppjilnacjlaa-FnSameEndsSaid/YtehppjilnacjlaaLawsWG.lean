/-
  The walk of the law SameEnds: it answers true, and nothing that was there is written. No conditions. (Written by wip/tools/ch9_laws.py.)
-/
import Derived.Test.YtehppjilnacjlaaLawsWF
namespace Go.Proofs.Ytehppjilnacjlaa
open Go.RowKit

set_option maxRecDepth 4000 in
set_option maxHeartbeats 8000000 in
theorem walkFnSameEnds (a : Option Addr) (len cap : Nat) (zs : List Int) (w : World) (h : IsRowK .u8 w a len cap zs) :
    Calls Try.prog 6 #[.slice a len cap] w fun e w' => e = .returned (.bool true) ∧ Below w.heap.size w w' := by
  by_cases hs : 1048576 < len
  · have h2 : (1048576 : Int) < (len : Int) := by omega
    go_enter Try.func6, Try.ntmps6
    go_wp2
    go_ret
    exact ⟨rfl, Below.refl _ _⟩
  go_enter Try.func6, Try.ntmps6
  go_wp2_with fail
  refine (DrawMachineOf_any _ _ _ _ _ h).mono ?_
  rintro e w0 ⟨s, hs9, rfl, BB⟩
  clear h hs
  have hul : s.data.toList.length = s.size := rfl
  have c1 := fun w => implMach_any s w (by omega)
  have c2 := fun w => specMach_any s w (by omega)
  obtain ⟨L, hL⟩ : ∃ L, machL s.data.toList = L := ⟨_, rfl⟩
  have hi := machL_inv s.data.toList
  have hmost := mach_most s.data.toList (by omega)
  rw [hL] at c1 c2 hi hmost
  have HL := Lib.hid hL
  have HUL := Lib.hid hul
  have HI := Lib.hid hi
  have HFEW := Lib.hid (mach_few9 hi)
  obtain ⟨n, hn⟩ : ∃ n, L.length = n := ⟨_, rfl⟩
  have HN := Lib.hid hn
  have hn9 : n ≤ 2097153 := by omega
  have HBW := Lib.hid BB
  clear hul hL hi hmost hn BB
  go_wp2_with fail
  refine (c1 _).mono ?_
  rintro e w1 ⟨g, c, A, rfl, hS1⟩
  have S1 := Lib.hid hS1
  have HB1 := Lib.hid (HBW.out.trans (hS1.outer.below.mono HBW.out.size))
  clear c1 hS1 HBW
  rw [HN.out]
  go_wp2
  go_loopw [5] (fun i_ wr => ∃ i : Nat, i ≤ s.size + 1 ∧ i_ = .int .i64 (i : Int) ∧ Hid (∃ q, wr = w1.drewN q)) (fun i_ _ => s.size + 1 - (intOf i_).toNat)
  case atStart => exact ⟨0, Nat.zero_le _, rfl, Lib.hid ⟨0, rfl⟩⟩
  case round =>
    obtain ⟨i, hi, rfl, HW⟩ := hrel
    by_cases hli : i < s.size
    · have zi : (i : Int) < ((s.size : Nat) : Int) := by omega
      have vi1 : IntKind.i64.wrap ((i : Int) + 1) = (i : Int) + 1 := IntWalk.i64_in _ (by omega)
      have vi2 : IntKind.i64.wrap ((i : Int) + 2) = (i : Int) + 2 := IntWalk.i64_in _ (by omega)
      have vi4 : IntKind.i64.wrap ((i : Int) + 4) = (i : Int) + 4 := IntWalk.i64_in _ (by omega)
      go_wp2
      go_loopw [6] (fun to_ wr => ∃ to : Nat, i + 1 ≤ to ∧ to ≤ s.size + 1 ∧ to_ = .int .i64 (to : Int) ∧ Hid (∃ q, wr = w1.drewN q)) (fun to_ _ => s.size + 2 - (intOf to_).toNat)
      case atStart => exact ⟨i + 1, Nat.le_refl _, by omega, by go_num, HW⟩
      case round =>
        clear HW
        obtain ⟨to, hto1, hto2, rfl, HW⟩ := hrel
        have vt1 : IntKind.i64.wrap ((to : Int) + 1) = (to : Int) + 1 := IntWalk.i64_in _ (by omega)
        by_cases hlt : to ≤ s.size ∧ to ≤ i + 4
        · obtain ⟨ht1, ht2⟩ := hlt
          have zt1 : (to : Int) ≤ ((s.size : Nat) : Int) := by omega
          have zt2 : (to : Int) ≤ (i : Int) + 4 := by omega
          go_wp2
          go_loopw [7] (fun j_ wr => ∃ j : Nat, j ≤ s.size + 2 ∧ j_ = .int .i64 (j : Int) ∧ Hid (∃ q, wr = w1.drewN q)) (fun j_ _ => s.size + 2 - (intOf j_).toNat)
          case atStart => exact ⟨0, Nat.zero_le _, rfl, HW⟩
          case round =>
            clear HW
            obtain ⟨j, hj, rfl, HW⟩ := hrel
            by_cases hlj : j < s.size
            · have zj : (j : Int) < ((s.size : Nat) : Int) := by omega
              have vj1 : IntKind.i64.wrap ((j : Int) + 1) = (j : Int) + 1 := IntWalk.i64_in _ (by omega)
              have vj3 : IntKind.i64.wrap ((j : Int) + 3) = (j : Int) + 3 := IntWalk.i64_in _ (by omega)
              have vj4 : IntKind.i64.wrap ((j : Int) + 4) = (j : Int) + 4 := IntWalk.i64_in _ (by omega)
              go_wp2
              go_loopw [8] (fun en_ wr => ∃ en : Nat, j + 1 ≤ en ∧ en ≤ s.size + 1 ∧ en_ = .int .i64 (en : Int) ∧ Hid (∃ q, wr = w1.drewN q)) (fun en_ _ => s.size + 2 - (intOf en_).toNat)
              case atStart => exact ⟨j + 1, Nat.le_refl _, by omega, by go_num, HW⟩
              case round =>
                clear HW
                obtain ⟨en, hen1, hen2, rfl, HW⟩ := hrel
                have ve1 : IntKind.i64.wrap ((en : Int) + 1) = (en : Int) + 1 := IntWalk.i64_in _ (by omega)
                by_cases hle : en ≤ s.size ∧ en ≤ j + 4
                · obtain ⟨he1, he2⟩ := hle
                  have ze1 : (en : Int) ≤ ((s.size : Nat) : Int) := by omega
                  have ze2 : (en : Int) ≤ (j : Int) + 4 := by omega
                  have sl1 : ∀ w, (Instr.slice 9 (.string s) (some (.int .i64 (i : Int))) (some (.int .i64 (to : Int))) none).run Try.prog w = .ok (.string (s.extract i to)) w := fun w => by
                    have h1 := run_slice_string (P := Try.prog) w 9 s .i64 .i64 i to Try.ulsQ (by omega) (by omega) (by omega)
                    rwa [Int.toNat_natCast, Int.toNat_natCast] at h1
                  have HX1 := Lib.hid (show (s.extract i to).data.toList ≠ [] ∧ pcIn s.data.toList (s.extract i to).data.toList ∧ (s.extract i to).size ≤ 4 ∧ 1 ≤ (s.extract i to).size from by
                    have hz : (s.extract i to).size = to - i := by rw [ByteArray.size_extract]; omega
                    have hz2 : (s.extract i to).data.toList.length = to - i := hz
                    have hul : s.data.toList.length = s.size := rfl
                    have h4 := ext_list s i (to - i)
                    rw [show i + (to - i) = to by omega] at h4
                    refine ⟨fun e => by rw [e] at hz2; simp at hz2; omega, pc_cut.2 ⟨i, by omega, by rw [hz2]; exact h4.symm⟩, by omega, by omega⟩)
                  have sl2 : ∀ w, (Instr.slice 9 (.string s) (some (.int .i64 (j : Int))) (some (.int .i64 (en : Int))) none).run Try.prog w = .ok (.string (s.extract j en)) w := fun w => by
                    have h1 := run_slice_string (P := Try.prog) w 9 s .i64 .i64 j en Try.ulsQ (by omega) (by omega) (by omega)
                    rwa [Int.toNat_natCast, Int.toNat_natCast] at h1
                  have HX2 := Lib.hid (show (s.extract j en).data.toList ≠ [] ∧ pcIn s.data.toList (s.extract j en).data.toList ∧ (s.extract j en).size ≤ 4 ∧ 1 ≤ (s.extract j en).size from by
                    have hz : (s.extract j en).size = en - j := by rw [ByteArray.size_extract]; omega
                    have hz2 : (s.extract j en).data.toList.length = en - j := hz
                    have hul : s.data.toList.length = s.size := rfl
                    have h4 := ext_list s j (en - j)
                    rw [show j + (en - j) = en by omega] at h4
                    refine ⟨fun e => by rw [e] at hz2; simp at hz2; omega, pc_cut.2 ⟨j, by omega, by rw [hz2]; exact h4.symm⟩, by omega, by omega⟩)
                  obtain ⟨x, hx⟩ : ∃ x, s.extract i to = x := ⟨_, rfl⟩
                  obtain ⟨y, hy⟩ : ∃ y, s.extract j en = y := ⟨_, rfl⟩
                  rw [hx] at sl1 HX1
                  rw [hy] at sl2 HX2
                  clear hx hy
                  have hx4 : x.size ≤ 4 := HX1.out.2.2.1
                  have hy4 : y.size ≤ 4 := HX2.out.2.2.1
                  go_wp2
                  go_quiet (fail)
                  have HW2 := Lib.hid (show ∃ q, wr.drewN nq = w1.drewN q by
                    obtain ⟨q, hq⟩ := HW.out
                    exact ⟨q + nq, by rw [hq, World.drewN_drewN]⟩)
                  clear sl1 sl2 HW
                  generalize wr.drewN nq = w6 at HW2 ⊢
                  go_wp2
                  go_loopw [11, 12] (fun b_ e_ wr => ∃ (e : Nat) (b : Bool), 1 ≤ e ∧ e ≤ s.size + 1 ∧ b_ = .bool b ∧ e_ = .int .i64 (e : Int) ∧ Hid (b = true ↔ sameTo s.data.toList x.data.toList y.data.toList e) ∧ Hid (wr = w6)) (fun _ e_ _ => s.size + 1 - (intOf e_).toNat)
                  case atStart => exact ⟨1, true, Nat.le_refl _, by omega, rfl, rfl, Lib.hid (show (true = true) ↔ _ from ⟨fun _ => sameTo_one _ _ _, fun _ => rfl⟩), Lib.hid rfl⟩
                  case round =>
                    obtain ⟨e, b, hee1, hee2, rfl, rfl, HSB, HWE⟩ := hrel
                    obtain rfl := HWE.out
                    clear HWE
                    have vee : IntKind.i64.wrap ((e : Int) + 1) = (e : Int) + 1 := IntWalk.i64_in _ (by omega)
                    by_cases hes : e ≤ s.size
                    · have zes : (e : Int) ≤ ((s.size : Nat) : Int) := by omega
                      have tx := end_test s x hes
                      have ty := end_test s y hes
                      by_cases hfx : x.size ≤ e
                      · by_cases hfy : y.size ≤ e
                        · have z1 : ((x.size : Nat) : Int) ≤ (e : Int) := by omega
                          have v1 : IntKind.i64.wrap ((e : Int) - ((x.size : Nat) : Int)) = (e : Int) - ((x.size : Nat) : Int) := IntWalk.i64_in _ (by omega)
                          have s1 : ∀ w, (Instr.slice 9 (.string s) (some (.int .i64 ((e : Int) - ((x.size : Nat) : Int)))) (some (.int .i64 (e : Int))) none).run Try.prog w = .ok (.string (s.extract (e - x.size) e)) w := fun w => by
                            have h1 := run_slice_string (P := Try.prog) w 9 s .i64 .i64 ((e : Int) - ((x.size : Nat) : Int)) e Try.ulsQ (by omega) (by omega) (by omega)
                            rwa [show ((e : Int) - ((x.size : Nat) : Int)).toNat = e - x.size by omega, Int.toNat_natCast] at h1
                          obtain ⟨p1, hp1⟩ : ∃ p, s.extract (e - x.size) e = p := ⟨_, rfl⟩
                          rw [hp1] at s1 tx
                          obtain ⟨B1, hB1⟩ : ∃ B, (p1.toList == x.toList) = B := ⟨_, rfl⟩
                          have HE1 : B1 = true ↔ endsAt s.data.toList x.data.toList e := by
                            rw [tx, ← hB1, beq_iff_eq, ByteArray.toList_eq, ByteArray.toList_eq]
                            exact ⟨fun h => ⟨by omega, h⟩, fun h => h.2⟩
                          have z2 : ((y.size : Nat) : Int) ≤ (e : Int) := by omega
                          have v2 : IntKind.i64.wrap ((e : Int) - ((y.size : Nat) : Int)) = (e : Int) - ((y.size : Nat) : Int) := IntWalk.i64_in _ (by omega)
                          have s2 : ∀ w, (Instr.slice 9 (.string s) (some (.int .i64 ((e : Int) - ((y.size : Nat) : Int)))) (some (.int .i64 (e : Int))) none).run Try.prog w = .ok (.string (s.extract (e - y.size) e)) w := fun w => by
                            have h1 := run_slice_string (P := Try.prog) w 9 s .i64 .i64 ((e : Int) - ((y.size : Nat) : Int)) e Try.ulsQ (by omega) (by omega) (by omega)
                            rwa [show ((e : Int) - ((y.size : Nat) : Int)).toNat = e - y.size by omega, Int.toNat_natCast] at h1
                          obtain ⟨p2, hp2⟩ : ∃ p, s.extract (e - y.size) e = p := ⟨_, rfl⟩
                          rw [hp2] at s2 ty
                          obtain ⟨B2, hB2⟩ : ∃ B, (p2.toList == y.toList) = B := ⟨_, rfl⟩
                          have HE2 : B2 = true ↔ endsAt s.data.toList y.data.toList e := by
                            rw [ty, ← hB2, beq_iff_eq, ByteArray.toList_eq, ByteArray.toList_eq]
                            exact ⟨fun h => ⟨by omega, h⟩, fun h => h.2⟩
                          have HN2 := Lib.hid (show sameTo s.data.toList x.data.toList y.data.toList (e + 1) ↔ sameTo s.data.toList x.data.toList y.data.toList e ∧ (B1 = true ↔ B2 = true) from by
                            rw [sameTo_next, HE1, HE2]
                            exact ⟨fun h => ⟨h.1, h.2 hee1⟩, fun h => ⟨h.1, fun _ => h.2⟩⟩)
                          clear tx ty HE1 HE2
                          clear hp1
                          clear hp2
                          cases b
                          all_goals
                            go_wp2
                            go_roundw
                            case rel => exact ⟨e + 1, _, by omega, by omega, rfl, by go_num, Lib.hid (by rw [HN2.out, ← HSB.out]; first | (simp; done) | (cases B1 <;> cases B2 <;> simp) | (cases B1 <;> simp) | (cases B2 <;> simp)), Lib.hid (by trivial)⟩
                            case measure => simp [intOf]; omega
                        · have z1 : ((x.size : Nat) : Int) ≤ (e : Int) := by omega
                          have v1 : IntKind.i64.wrap ((e : Int) - ((x.size : Nat) : Int)) = (e : Int) - ((x.size : Nat) : Int) := IntWalk.i64_in _ (by omega)
                          have s1 : ∀ w, (Instr.slice 9 (.string s) (some (.int .i64 ((e : Int) - ((x.size : Nat) : Int)))) (some (.int .i64 (e : Int))) none).run Try.prog w = .ok (.string (s.extract (e - x.size) e)) w := fun w => by
                            have h1 := run_slice_string (P := Try.prog) w 9 s .i64 .i64 ((e : Int) - ((x.size : Nat) : Int)) e Try.ulsQ (by omega) (by omega) (by omega)
                            rwa [show ((e : Int) - ((x.size : Nat) : Int)).toNat = e - x.size by omega, Int.toNat_natCast] at h1
                          obtain ⟨p1, hp1⟩ : ∃ p, s.extract (e - x.size) e = p := ⟨_, rfl⟩
                          rw [hp1] at s1 tx
                          obtain ⟨B1, hB1⟩ : ∃ B, (p1.toList == x.toList) = B := ⟨_, rfl⟩
                          have HE1 : B1 = true ↔ endsAt s.data.toList x.data.toList e := by
                            rw [tx, ← hB1, beq_iff_eq, ByteArray.toList_eq, ByteArray.toList_eq]
                            exact ⟨fun h => ⟨by omega, h⟩, fun h => h.2⟩
                          have z2 : ¬ (((y.size : Nat) : Int) ≤ (e : Int)) := by omega
                          obtain ⟨B2, hB2⟩ : ∃ B, false = B := ⟨_, rfl⟩
                          have HE2 : B2 = true ↔ endsAt s.data.toList y.data.toList e := by
                            rw [ty, ← hB2]
                            exact ⟨(fun h => absurd h (by decide)), (fun h => absurd h.1 (by omega))⟩
                          have HN2 := Lib.hid (show sameTo s.data.toList x.data.toList y.data.toList (e + 1) ↔ sameTo s.data.toList x.data.toList y.data.toList e ∧ (B1 = true ↔ B2 = true) from by
                            rw [sameTo_next, HE1, HE2]
                            exact ⟨fun h => ⟨h.1, h.2 hee1⟩, fun h => ⟨h.1, fun _ => h.2⟩⟩)
                          clear tx ty HE1 HE2
                          subst hB2
                          clear hp1
                          cases b
                          all_goals
                            go_wp2
                            go_roundw
                            case rel => exact ⟨e + 1, _, by omega, by omega, rfl, by go_num, Lib.hid (by rw [HN2.out, ← HSB.out]; first | (simp; done) | (cases B1 <;> cases B2 <;> simp) | (cases B1 <;> simp) | (cases B2 <;> simp)), Lib.hid (by trivial)⟩
                            case measure => simp [intOf]; omega
                      · by_cases hfy : y.size ≤ e
                        · have z1 : ¬ (((x.size : Nat) : Int) ≤ (e : Int)) := by omega
                          obtain ⟨B1, hB1⟩ : ∃ B, false = B := ⟨_, rfl⟩
                          have HE1 : B1 = true ↔ endsAt s.data.toList x.data.toList e := by
                            rw [tx, ← hB1]
                            exact ⟨(fun h => absurd h (by decide)), (fun h => absurd h.1 (by omega))⟩
                          have z2 : ((y.size : Nat) : Int) ≤ (e : Int) := by omega
                          have v2 : IntKind.i64.wrap ((e : Int) - ((y.size : Nat) : Int)) = (e : Int) - ((y.size : Nat) : Int) := IntWalk.i64_in _ (by omega)
                          have s2 : ∀ w, (Instr.slice 9 (.string s) (some (.int .i64 ((e : Int) - ((y.size : Nat) : Int)))) (some (.int .i64 (e : Int))) none).run Try.prog w = .ok (.string (s.extract (e - y.size) e)) w := fun w => by
                            have h1 := run_slice_string (P := Try.prog) w 9 s .i64 .i64 ((e : Int) - ((y.size : Nat) : Int)) e Try.ulsQ (by omega) (by omega) (by omega)
                            rwa [show ((e : Int) - ((y.size : Nat) : Int)).toNat = e - y.size by omega, Int.toNat_natCast] at h1
                          obtain ⟨p2, hp2⟩ : ∃ p, s.extract (e - y.size) e = p := ⟨_, rfl⟩
                          rw [hp2] at s2 ty
                          obtain ⟨B2, hB2⟩ : ∃ B, (p2.toList == y.toList) = B := ⟨_, rfl⟩
                          have HE2 : B2 = true ↔ endsAt s.data.toList y.data.toList e := by
                            rw [ty, ← hB2, beq_iff_eq, ByteArray.toList_eq, ByteArray.toList_eq]
                            exact ⟨fun h => ⟨by omega, h⟩, fun h => h.2⟩
                          have HN2 := Lib.hid (show sameTo s.data.toList x.data.toList y.data.toList (e + 1) ↔ sameTo s.data.toList x.data.toList y.data.toList e ∧ (B1 = true ↔ B2 = true) from by
                            rw [sameTo_next, HE1, HE2]
                            exact ⟨fun h => ⟨h.1, h.2 hee1⟩, fun h => ⟨h.1, fun _ => h.2⟩⟩)
                          clear tx ty HE1 HE2
                          subst hB1
                          clear hp2
                          cases b
                          all_goals
                            go_wp2
                            go_roundw
                            case rel => exact ⟨e + 1, _, by omega, by omega, rfl, by go_num, Lib.hid (by rw [HN2.out, ← HSB.out]; first | (simp; done) | (cases B1 <;> cases B2 <;> simp) | (cases B1 <;> simp) | (cases B2 <;> simp)), Lib.hid (by trivial)⟩
                            case measure => simp [intOf]; omega
                        · have z1 : ¬ (((x.size : Nat) : Int) ≤ (e : Int)) := by omega
                          obtain ⟨B1, hB1⟩ : ∃ B, false = B := ⟨_, rfl⟩
                          have HE1 : B1 = true ↔ endsAt s.data.toList x.data.toList e := by
                            rw [tx, ← hB1]
                            exact ⟨(fun h => absurd h (by decide)), (fun h => absurd h.1 (by omega))⟩
                          have z2 : ¬ (((y.size : Nat) : Int) ≤ (e : Int)) := by omega
                          obtain ⟨B2, hB2⟩ : ∃ B, false = B := ⟨_, rfl⟩
                          have HE2 : B2 = true ↔ endsAt s.data.toList y.data.toList e := by
                            rw [ty, ← hB2]
                            exact ⟨(fun h => absurd h (by decide)), (fun h => absurd h.1 (by omega))⟩
                          have HN2 := Lib.hid (show sameTo s.data.toList x.data.toList y.data.toList (e + 1) ↔ sameTo s.data.toList x.data.toList y.data.toList e ∧ (B1 = true ↔ B2 = true) from by
                            rw [sameTo_next, HE1, HE2]
                            exact ⟨fun h => ⟨h.1, h.2 hee1⟩, fun h => ⟨h.1, fun _ => h.2⟩⟩)
                          clear tx ty HE1 HE2
                          subst hB1
                          subst hB2
                          cases b
                          all_goals
                            go_wp2
                            go_roundw
                            case rel => exact ⟨e + 1, _, by omega, by omega, rfl, by go_num, Lib.hid (by rw [HN2.out, ← HSB.out]; first | (simp; done) | (cases B1 <;> cases B2 <;> simp) | (cases B1 <;> simp) | (cases B2 <;> simp)), Lib.hid (by trivial)⟩
                            case measure => simp [intOf]; omega
                    · have zes : ¬ ((e : Int) ≤ ((s.size : Nat) : Int)) := by omega
                      have HEQ := Lib.hid (show b = true ↔ sameE s.data.toList x.data.toList y.data.toList from HSB.out.trans (by
                        rw [show e = s.data.toList.length + 1 by have := HUL.out; omega]
                        exact sameTo_all HX1.out.1 HX2.out.1))
                      have hst : ∀ r, StAt (wr.drewN r) (some ⟨g, 0, none⟩) (datL L) A := fun r => by
                        obtain ⟨q, hq⟩ := HW2.out
                        rw [hq, World.drewN_drewN]
                        exact S1.out.at_.below (below_drewN' (Below.refl _ _) _)
                      have cF0 := implFol_any (datL L) x (some ⟨g, 0, none⟩) n c A wr (by rw [datL_len]; exact HN.out.symm) (by omega) HFEW.out (by omega) (by
                        obtain ⟨q, hq⟩ := HW2.out
                        rw [hq]
                        exact S1.out.at_.below (below_drewN' (Below.refl _ _) _))
                      have cG := fun r => implFol_any (datL L) y (some ⟨g, 0, none⟩) n c A (wr.drewN r) (by rw [datL_len]; exact HN.out.symm) (by omega) HFEW.out (by omega) (hst r)
                      obtain ⟨f1, hf1⟩ : ∃ f, folL (datL L) x.data.toList = f := ⟨_, rfl⟩
                      obtain ⟨f2, hf2⟩ : ∃ f, folL (datL L) y.data.toList = f := ⟨_, rfl⟩
                      have hff : f1 = f2 ↔ b = true := by
                        have h := same_ends HX1.out.2.1 HX2.out.2.1
                        rw [HL.out, hf1, hf2] at h
                        exact h.trans HEQ.out.symm
                      have tf : (f1 == f2) = b := by
                        cases b with
                        | true => rw [beq_iff_eq]; exact hff.2 rfl
                        | false => exact beq_eq_false_iff_ne.2 (fun e => by have := hff.1 e; cases this)
                      have tb : (b != b) = false := by cases b <;> rfl
                      rw [hf1] at cF0
                      rw [hf2] at cG
                      clear hst hf1 hf2 hff HEQ HSB HX1 HX2
                      go_wp2_with fail
                      refine cF0.mono ?_
                      rintro e w7 ⟨rfl, q7, rfl⟩
                      have HW7 := Lib.hid (show ∃ q, (wr.drewN q7) = w1.drewN q by
                        obtain ⟨q, hq⟩ := HW2.out
                        exact ⟨q + q7, by rw [hq, World.drewN_drewN]⟩)
                      have cG7 := cG q7
                      clear cF0 cG
                      generalize (wr.drewN q7) = w8 at HW7 cG7 ⊢
                      go_wp2_with fail
                      refine cG7.mono ?_
                      rintro e w9 ⟨rfl, q9, rfl⟩
                      have HW9 := Lib.hid (show ∃ q, w8.drewN q9 = w1.drewN q by
                        obtain ⟨q, hq⟩ := HW7.out
                        exact ⟨q + q9, by rw [hq, World.drewN_drewN]⟩)
                      clear cG7 HW7 HW2
                      go_wp2
                      go_roundw
                      case rel => exact ⟨en + 1, by omega, by omega, by go_num, HW9⟩
                      case measure => simp [intOf]; omega
                · have ze3 : ¬ ((en : Int) ≤ ((s.size : Nat) : Int)) ∨ (en : Int) ≤ ((s.size : Nat) : Int) ∧ ¬ ((en : Int) ≤ (j : Int) + 4) := by omega
                  rcases ze3 with ze3 | ⟨ze3, ze4⟩
                  all_goals
                    go_wp2
                    go_roundw
                    case rel => exact ⟨j + 3, by omega, by go_num, HW⟩
                    case measure => simp [intOf]; omega
            · have zj : ¬ ((j : Int) < ((s.size : Nat) : Int)) := by omega
              go_wp2
              go_roundw
              case rel => exact ⟨to + 1, by omega, by omega, by go_num, HW⟩
              case measure => simp [intOf]; omega
        · have zt3 : ¬ ((to : Int) ≤ ((s.size : Nat) : Int)) ∨ (to : Int) ≤ ((s.size : Nat) : Int) ∧ ¬ ((to : Int) ≤ (i : Int) + 4) := by omega
          rcases zt3 with zt3 | ⟨zt3, zt4⟩
          all_goals
            go_wp2
            go_roundw
            case rel => exact ⟨i + 2, by omega, by go_num, HW⟩
            case measure => simp [intOf]; omega
    · have zi : ¬ ((i : Int) < ((s.size : Nat) : Int)) := by omega
      have S2 := Lib.hid (show StRows w0 w0.heap.size wr (some ⟨g, 0, none⟩) L.length c (dOf L) A (tE L) by obtain ⟨q, hq⟩ := HW.out; rw [hq]; exact S1.out.later (below_drewN' (Below.refl _ _) q))
      have HB2 := Lib.hid (show Below w.heap.size w wr by obtain ⟨q, hq⟩ := HW.out; rw [hq]; exact below_drewN' HB1.out q)
      clear HW
      go_wp2_with fail
      refine (c2 _).mono ?_
      rintro e w3 ⟨g3, c3, A3, rfl, hS3⟩
      have cS := sameStates_same (datL L) (some ⟨g, 0, none⟩) (some ⟨g3, 0, none⟩) L.length c c3 A A3 w3 (datL_len _).symm (by have := HN.out; omega) HFEW.out (S2.out.later hS3.outer.below).at_ hS3.at_
      have HB3 := Lib.hid (HB2.out.trans (hS3.outer.below.mono HB2.out.size))
      rw [HN.out] at cS
      clear c2 hS3 S2 HB2
      rw [HN.out]
      go_wp2_with fail
      refine cS.mono ?_
      rintro e w4 ⟨rfl, q4, rfl⟩
      have BB := below_drewN' HB3.out q4
      clear cS HB3
      go_wp2_with fail
      refine (alive_any _).mono ?_
      rintro e wq ⟨rfl, rfl⟩
      go_wp2
      go_ret
      exact ⟨rfl, BB⟩

end Go.Proofs.Ytehppjilnacjlaa
