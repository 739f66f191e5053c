/-
  The walk of chapter 4's law AnyMarksShared: it returns true, and nothing that was there is written. No conditions.
-/
import Derived.Test.YtjebgoekcaogbaaLawsTV
namespace Go.Proofs.Ytjebgoekcaogbaa
open Go.RowKit

theorem wf_bnd {n : Int} (h : (Lit.int .i64 n).wf = true) : -9223372036854775808 ≤ n ∧ n ≤ 9223372036854775807 := by
  simp [Lit.wf, IntKind.min, IntKind.max, IntKind.signed, IntKind.bits] at h
  omega

set_option maxRecDepth 4000 in
set_option maxHeartbeats 16000000 in
theorem walkFnAnyMarksShared (A B : ByteArray) (K V : Int) (_w0 : A.size ≤ maxLen) (_w1 : B.size ≤ maxLen) (_w2 : (Lit.int .i64 K).wf = true) (_w3 : (Lit.int .i64 V).wf = true) (w : World) :
    Calls Try.prog 11 #[.string A, .string B, .int .i64 K, .int .i64 V] w fun e w' => e = .returned (.bool true) ∧ Below w.heap.size w w' := by
  by_cases hs : 1000 < A.size
  · have hb0 : decide ((1000 : Int) < A.size) = true := by simp; omega
    go_enter Try.func11, Try.ntmps11
    go_wp2_with fail
    refine (bigText_is true _ _ _ hb0).mono ?_
    rintro e w1 ⟨rfl, rfl⟩
    go_wp2_with fail
    refine (alive_any _).mono ?_
    rintro e w1 ⟨rfl, rfl⟩
    go_wp2
    go_ret
    exact ⟨rfl, Below.refl _ _⟩
  have hb0 : decide ((1000 : Int) < A.size) = false := by simp; omega
  by_cases hs2 : 1000 < B.size
  · have hb1 : decide ((1000 : Int) < B.size) = true := by simp; omega
    go_enter Try.func11, Try.ntmps11
    go_wp2_with fail
    refine (bigText_is false _ _ _ hb0).mono ?_
    rintro e w1 ⟨rfl, rfl⟩
    go_wp2_with fail
    refine (bigText_is true _ _ _ hb1).mono ?_
    rintro e w1 ⟨rfl, rfl⟩
    go_wp2_with fail
    refine (alive_any _).mono ?_
    rintro e w1 ⟨rfl, rfl⟩
    go_wp2
    go_ret
    exact ⟨rfl, Below.refl _ _⟩
  have hb1 : decide ((1000 : Int) < B.size) = false := by simp; omega
  go_enter Try.func11, Try.ntmps11
  go_wp2_with fail
  refine (bigText_is false _ _ _ hb0).mono ?_
  rintro e w1 ⟨rfl, rfl⟩
  go_wp2_with fail
  refine (bigText_is false _ _ _ hb1).mono ?_
  rintro e w1 ⟨rfl, rfl⟩
  clear hb0 hb1
  have hb := Below.refl w.heap.size w
  have hA9 : A.size ≤ 1000 := by omega
  have hB9 : B.size ≤ 1000 := by omega
  have hV9 : V ≤ 9223372036854775807 := (wf_bnd _w3).2
  clear hs hs2
  obtain ⟨S, c0, hS9, hSg⟩ := sure_any K V
  have HSg := Lib.hid hSg
  obtain ⟨X, hX⟩ : ∃ X, marksL A.data.toList K V = X := ⟨_, rfl⟩
  obtain ⟨Y, hY⟩ : ∃ Y, marksL B.data.toList K V = Y := ⟨_, rfl⟩
  have hXl : X.length ≤ 1000 := by
    have h := marksL_roomT A.data.toList K V
    rw [hX] at h
    have e1 : A.data.toList.length = A.size := rfl
    omega
  have hYl : Y.length ≤ 1000 := by
    have h := marksL_roomT B.data.toList K V
    rw [hY] at h
    have e1 : B.data.toList.length = B.size := rfl
    omega
  have HXb := Lib.hid (show ∀ p (h : p < X.length), 0 ≤ X[p].2 ∧ X[p].2 ≤ 1000 from fun p h => by
    have h1 := marksL_bounds A.data.toList K V X[p] (by rw [hX]; exact List.getElem_mem h)
    have : A.data.toList.length = A.size := rfl
    omega)
  have HYb := Lib.hid (show ∀ p (h : p < Y.length), 0 ≤ Y[p].2 ∧ Y[p].2 ≤ 1000 from fun p h => by
    have h1 := marksL_bounds B.data.toList K V Y[p] (by rw [hY]; exact List.getElem_mem h)
    have : B.data.toList.length = B.size := rfl
    omega)
  have c1 := fun w => implMarks_any A K V X w hX (by omega) hV9
  have c2 := fun w => implMarks_any B K V Y w hY (by omega) hV9
  have c3 := fun w => specMarks_any A K V X w hX (by omega) hV9
  have c4 := fun w => specMarks_any B K V Y w hY (by omega) hV9
  have HX := Lib.hid hX
  have HY := Lib.hid hY
  have HXl := Lib.hid hXl
  have HYl := Lib.hid hYl
  clear hX hY hXl hYl hSg
  go_wp2_with fail
  refine (c0 _).mono ?_
  rintro e w2 ⟨rfl, rfl⟩
  go_wp2_with fail
  refine (c1 _).mono ?_
  rintro e w2 ⟨ax, nx, dx, rfl, ox⟩
  have HNX := Lib.hid (pairs_len ox.own)
  have hb2 := hb.trans (ox.below.mono hb.size)
  go_wp2_with fail
  refine (c2 _).mono ?_
  rintro e w3 ⟨ay, ny, dy, rfl, oy⟩
  have HNY := Lib.hid (pairs_len oy.own)
  have hb3 := hb2.trans (oy.below.mono hb2.size)
  have ox3 := ox.at_.below oy.below
  have oy3 := oy.at_
  have hnx9 : nx ≤ 1000 := by have := HNX.out; have := HXl.out; omega
  have hny9 : ny ≤ 1000 := by have := HNY.out; have := HYl.out; omega
  clear hb hb2 ox oy
  go_wp2_with fail
  refine (c3 _).mono ?_
  rintro e w4 ⟨a3, n3, d3, rfl, o3⟩
  have hb4 := hb3.trans (o3.below.mono hb3.size)
  have ox4 := ox3.below o3.below
  have oy4 := oy3.below o3.below
  clear hb3 ox3 oy3
  go_wp2_with fail
  refine (sameMarks_b _ _ _ _ _ _ X _ HNX.out (pairs_len o3.own) (by omega) ox4 o3.at_).mono ?_
  rintro e w5 ⟨rfl, q5, rfl⟩
  clear o3
  have hb5 := below_drewN' hb4 q5
  have ox5 := ox4.drewN q5
  have oy5 := oy4.drewN q5
  obtain ⟨w5, HW5⟩ : ∃ w5, Hid (w4.drewN q5 = w5) := ⟨_, Lib.hid rfl⟩
  rw [HW5.out] at hb5 ox5 oy5 ⊢
  clear hb4 ox4 oy4 HW5
  go_wp2_with fail
  refine (c4 _).mono ?_
  rintro e w6 ⟨a6, n6, d6, rfl, o6⟩
  have hb6 := hb5.trans (o6.below.mono hb5.size)
  have ox6 := ox5.below o6.below
  have oy6 := oy5.below o6.below
  clear hb5 ox5 oy5
  go_wp2_with fail
  refine (sameMarks_b _ _ _ _ _ _ Y _ HNY.out (pairs_len o6.own) (by omega) oy6 o6.at_).mono ?_
  rintro e w7 ⟨rfl, q7, rfl⟩
  clear o6
  have R : RdM w (w6.drewN q7) ax X := ⟨below_drewN' hb6 q7, ox6.drewN q7⟩
  have R2 := oy6.drewN q7
  obtain ⟨w7, HW7⟩ : ∃ w7, Hid (w6.drewN q7 = w7) := ⟨_, Lib.hid rfl⟩
  rw [HW7.out] at R R2 ⊢
  clear hb6 ox6 oy6 HW7 c0 c1 c2 c3 c4
  go_wp2
  go_loopw [12] (fun i_ wr => ∃ i : Nat, i ≤ A.size + 1 ∧ i_ = .int .i64 i ∧ RdM w wr ax X ∧ CellsAt wr ay (pairsC Y)) (fun i_ _ => A.size + 1 - (intOf i_).toNat)
  case atStart => exact ⟨0, Nat.zero_le _, rfl, R, R2⟩
  case round =>
    clear R R2
    obtain ⟨i, hi, rfl, R, R2⟩ := hrel
    by_cases hS0 : S = 0
    · subst hS0
      clear HSg
      go_wp2_with fail
      refine (alive_any _).mono ?_
      rintro e w8 ⟨rfl, rfl⟩
      go_wp2
      go_ret
      exact ⟨rfl, R.below⟩
    have hS1 : (0 : Int) < (S : Int) := by omega
    by_cases hli : i + S ≤ A.size
    · obtain ⟨k, v, rfl, rfl, hk1, hv1, hk9, hv9, hSe⟩ := HSg.out (by omega)
      have HSe := Lib.hid hSe
      have hli2 : (i : Int) + (S : Int) ≤ (A.size : Int) := by omega
      obtain ⟨pa, hpa⟩ : ∃ pa, A.extract i (i + S) = pa := ⟨_, rfl⟩
      have HPA := Lib.hid hpa
      have sl1 : ∀ w, (Instr.slice 9 (.string A) (some (.int .i64 i)) (some (.int .i64 ((i : Int) + (S : Int)))) none).run Try.prog w = .ok (.string pa) w := fun w => by
        have := run_slice_string (P := Try.prog) w 9 A .i64 .i64 i ((i : Int) + (S : Int)) Try.ulsU (by omega) (by omega) (by omega)
        rwa [Int.toNat_natCast, show ((i : Int) + (S : Int)).toNat = i + S by omega, hpa] at this
      have e2 : IntKind.i64.wrap ((i : Int) + (S : Int)) = (i : Int) + (S : Int) := IntWalk.i64_in _ (by omega)
      clear hSe hpa
      go_wp2
      go_loopw [13] (fun j_ wr => ∃ j : Nat, j ≤ B.size + 1 ∧ j_ = .int .i64 j ∧ RdM w wr ax X ∧ CellsAt wr ay (pairsC Y)) (fun j_ _ => B.size + 1 - (intOf j_).toNat)
      case atStart => exact ⟨0, Nat.zero_le _, rfl, R, R2⟩
      case round =>
        clear R R2
        obtain ⟨j, hj, rfl, R, R2⟩ := hrel
        by_cases hlj : j + S ≤ B.size
        · obtain ⟨pb, hpb⟩ : ∃ pb, B.extract j (j + S) = pb := ⟨_, rfl⟩
          have hlj2 : (j : Int) + (S : Int) ≤ (B.size : Int) := by omega
          have sl2 : ∀ w, (Instr.slice 9 (.string B) (some (.int .i64 j)) (some (.int .i64 ((j : Int) + (S : Int)))) none).run Try.prog w = .ok (.string pb) w := fun w => by
            have := run_slice_string (P := Try.prog) w 9 B .i64 .i64 j ((j : Int) + (S : Int)) Try.ulsU (by omega) (by omega) (by omega)
            rwa [Int.toNat_natCast, show ((j : Int) + (S : Int)).toNat = j + S by omega, hpb] at this
          have e3 : IntKind.i64.wrap ((j : Int) + (S : Int)) = (j : Int) + (S : Int) := IntWalk.i64_in _ (by omega)
          by_cases hpe : pa = pb
          · obtain ⟨p0, q0, d, hh, hp0, hq0, hx0, hy0, hd0⟩ := shared_marks A B k v S X Y i j hk1 hv1 HSe.out HX.out HY.out hli hlj (by rw [HPA.out, hpb, hpe])
            have HX0 := Lib.hid hx0
            have HY0 := Lib.hid hy0
            have hp0n : p0 < nx := by have := HNX.out; omega
            have hq0n : q0 < ny := by have := HNY.out; omega
            have HPB := Lib.hid hpb
            clear hpb hx0 hy0
            subst hpe
            have t1 : (pa.toList == pa.toList) = true := beq_self_eq_true _
            have t2 : (pa.toList != pa.toList) = false := by rw [bne, t1]; rfl
            go_wp2
            go_quiet (fail)
            go_wp2
            go_loopw [14, 15] (fun b_ p_ wr => ∃ (p : Nat) (b : Bool), p ≤ nx ∧ p_ = .int .i64 p ∧ b_ = .bool b ∧ Hid (p0 < p → b = true) ∧ RdM w wr ax X ∧ CellsAt wr ay (pairsC Y)) (fun _ p_ _ => nx - (intOf p_).toNat)
            case atStart => exact ⟨0, false, Nat.zero_le _, rfl, rfl, Lib.hid (fun h => absurd h (Nat.not_lt_zero _)), R.drewN _, R2.drewN _⟩
            case round =>
              clear R R2 sl1 sl2 t1 t2
              obtain ⟨p, b, hp, rfl, rfl, HB, R, R2⟩ := hrel
              by_cases hlp : p < nx
              · have hpX : p < X.length := by have := HNX.out; omega
                obtain ⟨hx, hhx⟩ : ∃ hx, X[p].1 = hx := ⟨_, rfl⟩
                obtain ⟨x, hxx⟩ : ∃ x, X[p].2 = x := ⟨_, rfl⟩
                have hxp : X[p] = (hx, x) := by rw [← hhx, ← hxx]
                obtain ⟨x0, x9⟩ := HXb.out p hpX
                rw [hxx] at x0 x9
                have HXP := Lib.hid hxp
                have e4 : IntKind.i64.wrap (x + (k : Int)) = x + (k : Int) := IntWalk.i64_in _ (by omega)
                have e5 : IntKind.i64.wrap (x - (i : Int)) = x - (i : Int) := IntWalk.i64_in _ (by omega)
                have y1 : (p : Int) < (nx : Int) := by omega
                have y2 : (0 : Int) ≤ (p : Int) := by omega
                clear hhx hxx hxp
                go_wp2
                go_loopw [14, 16] (fun b_ q_ wr => ∃ (q : Nat) (b2 : Bool), q ≤ ny ∧ q_ = .int .i64 q ∧ b_ = .bool b2 ∧ Hid ((p0 < p ∨ p = p0 ∧ q0 < q) → b2 = true) ∧ RdM w wr ax X ∧ CellsAt wr ay (pairsC Y)) (fun _ q_ _ => ny - (intOf q_).toNat)
                case atStart => exact ⟨0, b, Nat.zero_le _, rfl, rfl, Lib.hid (fun h => HB.out (by omega)), R, R2⟩
                case round =>
                  clear R R2 HB
                  obtain ⟨q, b2, hq, rfl, rfl, HB, R, R2⟩ := hrel
                  by_cases hlq : q < ny
                  · have hqY : q < Y.length := by have := HNY.out; omega
                    obtain ⟨hy, hhy⟩ : ∃ hy, Y[q].1 = hy := ⟨_, rfl⟩
                    obtain ⟨y, hyy⟩ : ∃ y, Y[q].2 = y := ⟨_, rfl⟩
                    have hyq : Y[q] = (hy, y) := by rw [← hhy, ← hyy]
                    obtain ⟨u0, u9⟩ := HYb.out q hqY
                    rw [hyy] at u0 u9
                    obtain ⟨gx, gox, rfl, g1, g2⟩ := pair_cells R.at_ hpX HXP.out
                    obtain ⟨gy, goy, rfl, g3, g4⟩ := pair_cells R2 hqY hyq
                    have e6 : IntKind.i64.wrap (y - (j : Int)) = y - (j : Int) := IntWalk.i64_in _ (by omega)
                    have y3 : (q : Int) < (ny : Int) := by omega
                    have y4 : (0 : Int) ≤ (q : Int) := by omega
                    have HQ := Lib.hid (show p = p0 → q = q0 → (i : Int) ≤ x ∧ x + (k : Int) ≤ (i : Int) + (S : Int) ∧ x - (i : Int) = y - (j : Int) ∧ hx = hy from fun h1 h2 => by
                      subst h1
                      subst h2
                      have h3 := HX0.out
                      have h4 := HY0.out
                      rw [HXP.out] at h3
                      rw [hyq] at h4
                      simp only [Prod.mk.injEq] at h3 h4
                      obtain ⟨h5, h6⟩ := h3
                      obtain ⟨h7, h8⟩ := h4
                      exact ⟨by omega, by omega, by omega, h5.trans h7.symm⟩)
                    clear hhy hyy hyq
                    cases b2 with
                    | true =>
                      go_wp2
                      go_quiet (fail)
                      go_wp2
                      go_roundw
                      case rel => exact ⟨q + 1, true, by omega, by go_num, rfl, Lib.hid (fun _ => rfl), R.drewN _, R2.drewN _⟩
                      case measure => simp [intOf]; omega
                    | false =>
                      have hno : ¬ (p0 < p ∨ p = p0 ∧ q0 < q) := fun h => by have := HB.out h; cases this
                      have HN := Lib.hid (show (¬ ((i : Int) ≤ x ∧ x + (k : Int) ≤ (i : Int) + (S : Int) ∧ x - (i : Int) = y - (j : Int) ∧ hx = hy)) → (p0 < p ∨ p = p0 ∧ q0 < q + 1) → false = true from fun h1 h2 => by
                        exfalso
                        have h3 : p = p0 ∧ q = q0 := by omega
                        exact h1 (HQ.out h3.1 h3.2))
                      clear hno HB HQ
                      by_cases hA : (i : Int) ≤ x
                      · have tA : decide ((i : Int) ≤ x) = true := decide_eq_true hA
                        by_cases hB : x + (k : Int) ≤ (i : Int) + (S : Int)
                        · have tB : decide (x + (k : Int) ≤ (i : Int) + (S : Int)) = true := decide_eq_true hB
                          by_cases hC : x - (i : Int) = y - (j : Int)
                          · have tC : (x - (i : Int) == y - (j : Int)) = true := by rw [hC]; exact beq_self_eq_true _
                            by_cases hD : hx = hy
                            · have tD : (hx == hy) = true := by rw [hD]; exact beq_self_eq_true _
                              clear hC hD HN
                              go_wp2
                              go_quiet (fail)
                              go_wp2
                              go_roundw
                              case rel => exact ⟨q + 1, true, by omega, by go_num, rfl, Lib.hid (fun _ => rfl), R.drewN _, R2.drewN _⟩
                              case measure => simp [intOf]; omega
                            · have tD : (hx == hy) = false := by simpa using hD
                              have HN2 := Lib.hid (HN.out (fun h => hD h.2.2.2))
                              clear hC hD HN
                              go_wp2
                              go_quiet (fail)
                              go_wp2
                              go_roundw
                              case rel => exact ⟨q + 1, false, by omega, by go_num, rfl, HN2, R.drewN _, R2.drewN _⟩
                              case measure => simp [intOf]; omega
                          · have tC : (x - (i : Int) == y - (j : Int)) = false := by simpa using hC
                            have HN2 := Lib.hid (HN.out (fun h => hC h.2.2.1))
                            clear hC HN
                            go_wp2
                            go_quiet (fail)
                            go_wp2
                            go_roundw
                            case rel => exact ⟨q + 1, false, by omega, by go_num, rfl, HN2, R.drewN _, R2.drewN _⟩
                            case measure => simp [intOf]; omega
                        · have tB : decide (x + (k : Int) ≤ (i : Int) + (S : Int)) = false := decide_eq_false hB
                          have HN2 := Lib.hid (HN.out (fun h => hB h.2.1))
                          clear hB HN
                          go_wp2
                          go_quiet (fail)
                          go_wp2
                          go_roundw
                          case rel => exact ⟨q + 1, false, by omega, by go_num, rfl, HN2, R.drewN _, R2.drewN _⟩
                          case measure => simp [intOf]; omega
                      · have tA : decide ((i : Int) ≤ x) = false := decide_eq_false hA
                        have HN2 := Lib.hid (HN.out (fun h => hA h.1))
                        clear hA HN
                        go_wp2
                        go_quiet (fail)
                        go_wp2
                        go_roundw
                        case rel => exact ⟨q + 1, false, by omega, by go_num, rfl, HN2, R.drewN _, R2.drewN _⟩
                        case measure => simp [intOf]; omega
                  · have HB2 := Lib.hid (show p0 < p + 1 → b2 = true from fun h => HB.out (by omega))
                    clear HB
                    go_wp2
                    go_roundw
                    case rel => exact ⟨p + 1, b2, by omega, by go_num, rfl, HB2, R, R2⟩
                    case measure => simp [intOf]; omega
              · obtain rfl : b = true := HB.out (by omega)
                clear HB
                go_wp2
                go_roundw
                case rel => exact ⟨j + 1, by omega, by go_num, R, R2⟩
                case measure => simp [intOf]; omega
          · have t1 : (pa.toList == pb.toList) = false := eqP_no hpe
            have t2 : (pa.toList != pb.toList) = true := by rw [bne, t1]; rfl
            clear hpb hpe
            go_wp2
            go_quiet (fail)
            go_wp2
            go_roundw
            case rel => exact ⟨j + 1, by omega, by go_num, R.drewN _, R2.drewN _⟩
            case measure => simp [intOf]; omega
        · have hlj2 : (B.size : Int) < (j : Int) + (S : Int) := by omega
          have hlj3 : decide (j + S ≤ B.size) = false := decide_eq_false hlj
          clear sl1
          go_wp2
          go_roundw
          case rel => exact ⟨i + 1, by omega, by go_num, R, R2⟩
          case measure => simp [intOf]; omega
    · have hli2 : (A.size : Int) < (i : Int) + (S : Int) := by omega
      have hli3 : decide (i + S ≤ A.size) = false := decide_eq_false hli
      go_wp2_with fail
      refine (alive_any _).mono ?_
      rintro e w8 ⟨rfl, rfl⟩
      go_wp2
      go_ret
      exact ⟨rfl, R.below⟩

end Go.Proofs.Ytjebgoekcaogbaa
