/-
  The walks of four laws of chapter 1 over drawn texts: each returns true, and nothing that was there is written. No conditions.
-/
import Derived.Test.YtnbogoklmjnneaaLawsTD
namespace Go.Proofs.Ytnbogoklmjnneaa
open Go.RowKit

set_option maxHeartbeats 2000000 in
theorem walkFnAlike (a : Option Addr) (len cap : Nat) (zs : List Int) (w : World) (h : IsRowK .u8 w a len cap zs) :
    Calls Try.prog 4 #[.slice a len cap] w fun e w' => e = .returned (.bool true) ∧ Below w.heap.size w w' := by
  by_cases hs : len ≤ 1048576
  · go_enter Try.func4, Try.ntmps4
    go_wp2_with fail
    refine (DrawAlike_any _ _ _ _ _ h).mono ?_
    rintro e w0 ⟨a0, hs, rfl, hb0⟩
    clear h
    obtain ⟨P, hP⟩ : ∃ P, alikeP a0.data.toList = P := ⟨_, rfl⟩
    obtain ⟨t, hT⟩ : ∃ t, alikeB a0 = t := ⟨_, rfl⟩
    have hts : t.size ≤ 1000 := by have := alikeB_size a0; rw [hT] at this; omega
    have hPl : P.length = t.size := by rw [← hP, ← hT]; exact (alikeT_len a0.data.toList).2
    have hri : ∀ j, j + 1 < P.length → P.getD j 0 < P.getD (j + 1) 0 := by rw [← hP]; exact alike_rising a0.data.toList
    have hsi : ∀ j (h : j < t.size), ∃ p : Nat, P.getD j 0 = (p : Int) ∧ ∃ hp : p < a0.size, signOf (a0[p].toNat : Int) = (t[j].toNat : Int) := by
      subst hT
      rw [← hP]
      exact alikeB_sign a0
    have c1 := fun w => specAlike_is a0 t w (by omega) hT
    have c2 := fun w => implAlike_is a0 t w (by omega) hT
    simp only [hP] at c1 c2
    have HSI := Lib.hid hsi
    have HRI := Lib.hid hri
    have HPL := Lib.hid hPl
    clear hP hT hsi hri hPl
    go_wp2_with fail
    refine (c2 _).mono ?_
    rintro e w1 ⟨a1, n1, c1', rfl, hown1, hb1⟩
    go_wp2_with fail
    refine (c1 _).mono ?_
    rintro e w2 ⟨a2, n2, c2', rfl, hown2, hb2⟩
    obtain ⟨rfl, _⟩ := intsAt_own hown1
    obtain ⟨rfl, hat2⟩ := intsAt_own hown2
    have hat1 := (intsAt_own (ownsRow_below hown1 hb2)).2
    have hb : Below w.heap.size w w2 := (hb0.trans (hb1.mono hb0.size)).trans (hb2.mono (by have := hb0.size; have := hb1.size; omega))
    clear hown1 hown2 hb0 hb1 hb2 c1 c2
    go_wp2_with fail
    refine (sameInts_same a1 a2 c1' c2' P _ (by have := HPL.out; omega) hat1 hat2).mono ?_
    rintro e w3 ⟨rfl, q3, rfl⟩
    have t1 : ((P.length : Int) == (t.size : Int)) = true := by rw [HPL.out]; simp
    have t2 : ((P.length : Int) != (t.size : Int)) = false := by rw [HPL.out]; simp
    go_wp2_with fail
    refine (rising_yes a1 c1' P (w2.drewN q3) (by have := HPL.out; omega) (hat1.same (fun _ => rfl)) HRI.out).mono ?_
    rintro e w4 ⟨rfl, q4, rfl⟩
    clear t1 t2 hat2
    go_wp2
    go_loopw [8] (fun i wr => ∃ k : Nat, k ≤ t.size ∧ i = .int .i64 k ∧ ∃ q, wr = w2.drewN q) (fun i _ => t.size - (intOf i).toNat)
    case atStart => exact ⟨0, Nat.zero_le _, rfl, _, rfl⟩
    case round =>
      obtain ⟨k, hk, rfl, q, hq⟩ := hrel
      have HQ := Lib.hid hq
      clear hq
      by_cases hlt : k < t.size
      · obtain ⟨p, hp, hps, hsg⟩ := HSI.out k hlt
        obtain ⟨b, o, rfl, hc⟩ := hat1.spot (fun e => by have h9 := HPL.out; rw [e] at h9; simp at h9; omega)
        have g1 := hc k (by rw [HPL.out]; exact hlt)
        rw [hp] at g1
        replace g1 : wr.cell? ⟨b, o + k, none⟩ = some (.int .i64 p) := by rw [HQ.out]; exact g1
        have hlk : k < P.length := by rw [HPL.out]; exact hlt
        have hl256 : (a0[p].toNat : Int) ≤ 255 := by have := a0[p].toNat_lt; omega
        have ht256 : (t[k].toNat : Int) ≤ 255 := by have := t[k].toNat_lt; omega
        have v1 : IntKind.i64.wrap (a0[p].toNat : Int) = a0[p].toNat := IntWalk.i64_in _ (by omega)
        have v2 : IntKind.i64.wrap (t[k].toNat : Int) = t[k].toNat := IntWalk.i64_in _ (by omega)
        have z0 : (0 : Int) ≤ p := by omega
        have z1 : (p : Int) < a0.size := by omega
        have z2 : decide ((p : Int) < 0) = false := by simp
        have z3 : decide ((a0.size : Int) ≤ (p : Int)) = false := by simp; omega
        have HG := Lib.hid hsg
        clear hc hp hsg hat1
        go_wp2
        go_quiet ((go_at_call 14; exact Calls.quiet_of_same ((implSignOf_is _ _ _ HG.out).mono (fun _ _ h => ⟨h.1, h.2.symm⟩))))
        go_wp2
        go_roundw
        case rel => exact ⟨k + 1, by omega, by go_num, _, by rw [HQ.out]; exact World.drewN_drewN _ _ _⟩
        case measure => simp [intOf]; omega
      · clear hat1
        go_wp2_with fail
        refine (alive_any _).mono ?_
        rintro e w5 ⟨rfl, rfl⟩
        go_wp2
        go_ret
        exact ⟨rfl, by rw [HQ.out]; exact below_drewN' hb q⟩
  · have h2 : (1048576 : Int) < (len : Int) := by omega
    go_enter Try.func4, Try.ntmps4
    go_wp2
    go_ret
    exact ⟨rfl, Below.refl _ _⟩

set_option maxHeartbeats 4000000 in
theorem walkFnIsAlike (a : Option Addr) (len cap : Nat) (zs : List Int) (w : World) (h : IsRowK .u8 w a len cap zs) :
    Calls Try.prog 6 #[.slice a len cap] w fun e w' => e = .returned (.bool true) ∧ Below w.heap.size w w' := by
  by_cases hs : len ≤ 1048576
  · go_enter Try.func6, Try.ntmps6
    go_wp2_with fail
    refine (DrawIsAlike_any _ _ _ _ _ h).mono ?_
    rintro e w0 ⟨s, hs0, rfl, hb0⟩
    clear h
    go_wp2
    go_loopw [4, 5] (fun v i wr => ∃ k : Nat, k ≤ s.size ∧ i = .int .i64 k ∧ v = .bool (okTo s k) ∧ ∃ q, wr = w0.drewN q) (fun _ i _ => s.size - (intOf i).toNat)
    case atStart => exact ⟨0, Nat.zero_le _, rfl, rfl, 0, rfl⟩
    case round =>
      obtain ⟨k, hk, rfl, rfl, q, hq⟩ := hrel
      have HQ := Lib.hid hq
      clear hq
      by_cases hlt : k < s.size
      · have hok : okTo s (k + 1) = (okTo s k && okAt s k) := rfl
        have hat : okAt s k = (decide (signOf (s[k].toNat : Int) = s[k].toNat) && (decide (s[k].toNat ≠ 32) || (decide (0 < k) && decide (k + 1 < s.size) && decide ((s.data.toList.getD (k - 1) 0).toNat ≠ 32)))) := by
          unfold okAt; rw [getD_byte s k hlt]
        have hb256 : (s[k].toNat : Int) ≤ 255 := by have := s[k].toNat_lt; omega
        have v1 : IntKind.i64.wrap (s[k].toNat : Int) = s[k].toNat := IntWalk.i64_in _ (by omega)
        have v2 : IntKind.i64.wrap ((s.size : Int) - 1) = s.size - 1 := IntWalk.i64_in _ (by omega)
        obtain ⟨y, hy⟩ : ∃ y, okTo s k = y := ⟨_, rfl⟩
        rw [hy] at hok ⊢
        cases y with
        | false =>
          have HE := Lib.hid (show okTo s (k + 1) = false by rw [hok]; rfl)
          clear hok hat hy
          go_wp2
          go_quiet (fail)
          go_wp2
          go_roundw
          case rel => exact ⟨k + 1, by omega, by go_num, by rw [HE.out], _, by rw [HQ.out]; exact World.drewN_drewN _ _ _⟩
          case measure => simp [intOf]; omega
        | true =>
          rw [Bool.true_and] at hok
          rw [hat] at hok
          clear hat hy
          by_cases h1 : signOf (s[k].toNat : Int) = s[k].toNat
          · rw [decide_eq_true h1, Bool.true_and] at hok
            have HG := Lib.hid h1
            clear h1
            by_cases h2 : s[k].toNat = 32
            · rw [decide_eq_false (fun h => h h2), Bool.false_or] at hok
              have t2 : ((s[k].toNat : Int) != 32) = false := by rw [h2]; rfl
              clear h2
              by_cases h3 : 0 < k
              · rw [decide_eq_true h3, Bool.true_and] at hok
                have t3 : decide ((0 : Int) < (k : Int)) = true := by simp; omega
                by_cases h4 : k + 1 < s.size
                · rw [decide_eq_true h4, Bool.true_and] at hok
                  have t4 : decide ((k : Int) < (s.size : Int) - 1) = true := by simp; omega
                  obtain ⟨j, rfl⟩ : ∃ j, k = j + 1 := ⟨k - 1, by omega⟩
                  have hj : j < s.size := by omega
                  rw [Nat.add_sub_cancel, getD_byte s j hj] at hok
                  have v3 : IntKind.i64.wrap (((j + 1 : Nat) : Int) - 1) = j := by rw [IntWalk.i64_in _ (by omega)]; omega
                  have v4 : IntKind.i64.wrap ((j : Int) + 1 - 1) = j := by rw [IntWalk.i64_in _ (by omega)]; omega
                  have t3' : decide ((0 : Int) < (j : Int) + 1) = true := decide_eq_true (by omega)
                  have t4' : decide ((j : Int) + 1 < (s.size : Int) - 1) = true := decide_eq_true (by omega)
                  have z1 : (0 : Int) ≤ (j : Int) + 1 := by omega
                  have z2 : (j : Int) + 1 < (s.size : Int) := by omega
                  have z3 : ((j : Int) + 1).toNat = j + 1 := by omega
                  by_cases h5 : s[j].toNat = 32
                  · have t5 : ((s[j].toNat : Int) != 32) = false := by rw [h5]; rfl
                    have HE := Lib.hid (show okTo s (j + 1 + 1) = false by rw [hok]; exact decide_eq_false (fun h => h h5))
                    clear hok h5
                    go_wp2
                    go_quiet ((go_at_call 14; exact Calls.quiet_of_same ((implSignOf_is _ _ _ HG.out).mono (fun _ _ h => ⟨h.1, h.2.symm⟩))))
                    go_wp2
                    go_roundw
                    case rel => exact ⟨j + 1 + 1, by omega, by go_num, by rw [HE.out], _, by rw [HQ.out]; exact World.drewN_drewN _ _ _⟩
                    case measure => simp [intOf]; omega
                  · have t5 : ((s[j].toNat : Int) != 32) = true := by simp; omega
                    have HE := Lib.hid (show okTo s (j + 1 + 1) = true by rw [hok]; exact decide_eq_true h5)
                    clear hok h5
                    go_wp2
                    go_quiet ((go_at_call 14; exact Calls.quiet_of_same ((implSignOf_is _ _ _ HG.out).mono (fun _ _ h => ⟨h.1, h.2.symm⟩))))
                    go_wp2
                    go_roundw
                    case rel => exact ⟨j + 1 + 1, by omega, by go_num, by rw [HE.out], _, by rw [HQ.out]; exact World.drewN_drewN _ _ _⟩
                    case measure => simp [intOf]; omega
                · have t4 : decide ((k : Int) < (s.size : Int) - 1) = false := by simp; omega
                  have HE := Lib.hid (show okTo s (k + 1) = false by rw [hok, decide_eq_false h4]; rfl)
                  clear hok
                  go_wp2
                  go_quiet ((go_at_call 14; exact Calls.quiet_of_same ((implSignOf_is _ _ _ HG.out).mono (fun _ _ h => ⟨h.1, h.2.symm⟩))))
                  go_wp2
                  go_roundw
                  case rel => exact ⟨k + 1, by omega, by go_num, by rw [HE.out], _, by rw [HQ.out]; exact World.drewN_drewN _ _ _⟩
                  case measure => simp [intOf]; omega
              · have t3 : decide ((0 : Int) < (k : Int)) = false := by simp; omega
                have t3' : decide (0 < k) = false := by simp; omega
                have HE := Lib.hid (show okTo s (k + 1) = false by rw [hok, decide_eq_false h3]; rfl)
                clear hok
                go_wp2
                go_quiet ((go_at_call 14; exact Calls.quiet_of_same ((implSignOf_is _ _ _ HG.out).mono (fun _ _ h => ⟨h.1, h.2.symm⟩))))
                go_wp2
                go_roundw
                case rel => exact ⟨k + 1, by omega, by go_num, by rw [HE.out], _, by rw [HQ.out]; exact World.drewN_drewN _ _ _⟩
                case measure => simp [intOf]; omega
            · have t2 : ((s[k].toNat : Int) != 32) = true := by simp; omega
              have HE := Lib.hid (show okTo s (k + 1) = true by rw [hok, decide_eq_true h2]; rfl)
              clear hok h2
              go_wp2
              go_quiet ((go_at_call 14; exact Calls.quiet_of_same ((implSignOf_is _ _ _ HG.out).mono (fun _ _ h => ⟨h.1, h.2.symm⟩))))
              go_wp2
              go_roundw
              case rel => exact ⟨k + 1, by omega, by go_num, by rw [HE.out], _, by rw [HQ.out]; exact World.drewN_drewN _ _ _⟩
              case measure => simp [intOf]; omega
          · obtain ⟨g, hg⟩ : ∃ g, signOf (s[k].toNat : Int) = g := ⟨_, rfl⟩
            have HE := Lib.hid (show okTo s (k + 1) = false by rw [hok, decide_eq_false h1]; rfl)
            have t1 : (g == (s[k].toNat : Int)) = false := by simp; rw [← hg]; exact h1
            have HG := Lib.hid hg
            clear hok h1 hg
            go_wp2
            go_quiet ((go_at_call 14; exact Calls.quiet_of_same ((implSignOf_is _ _ _ HG.out).mono (fun _ _ h => ⟨h.1, h.2.symm⟩))))
            go_wp2
            go_roundw
            case rel => exact ⟨k + 1, by omega, by go_num, by rw [HE.out], _, by rw [HQ.out]; exact World.drewN_drewN _ _ _⟩
            case measure => simp [intOf]; omega
      · obtain rfl : k = s.size := by omega
        have c1 := fun w => specIsAlike_any s w (by omega)
        have c2 := fun w => implIsAlike_any s w (by omega)
        simp only [okTo_alike] at c1 c2
        have hbw : Below w.heap.size w wr := by rw [HQ.out]; exact below_drewN' hb0 q
        generalize okTo s s.size = y at *
        go_wp2_with fail
        refine (c2 _).mono ?_
        rintro e w2 ⟨rfl, hb2⟩
        go_wp2_with fail
        refine (c1 _).mono ?_
        rintro e w3 ⟨rfl, hb3⟩
        have hB : Below w.heap.size w w3 := hbw.trans ((hb2.trans (hb3.mono hb2.size)).mono hbw.size)
        clear hbw hb2 hb3
        go_wp2_with fail
        refine (alive_any _).mono ?_
        rintro e w5 ⟨rfl, rfl⟩
        go_wp2
        go_ret
        exact ⟨rfl, hB⟩
  · have h2 : (1048576 : Int) < (len : Int) := by omega
    go_enter Try.func6, Try.ntmps6
    go_wp2
    go_ret
    exact ⟨rfl, Below.refl _ _⟩

end Go.Proofs.Ytnbogoklmjnneaa
