/-
  The walks of chapter 4's law AnyChosenOf: it returns true, and nothing that was there is written. No conditions.
-/
import Derived.Test.YtjebgoekcaogbaaLawsTT
import Derived.Test.YtjebgoekcaogbaaDrawD
import Derived.Test.YtjebgoekcaogbaaHelpA
import Derived.Test.YtjebgoekcaogbaaHelpS
namespace Go.Proofs.Ytjebgoekcaogbaa
open Go.RowKit

set_option maxRecDepth 2000 in
set_option maxHeartbeats 16000000 in
theorem walkFnAnyChosenOf (aL : Option Addr) (nL cL : Nat) (L : List (Int)) (v : Int) (w : World) (wi0 : nL = L.length ∧ nL ≤ cL ∧ cL ≤ maxLen ∧ (∀ x ∈ L, (Lit.int .i64 x).wf = true) ∧ CellsAt w aL (intCells L)) (wi1 : (Lit.int .i64 v).wf = true) :
    Calls Try.prog 10 #[.slice aL nL cL, .int .i64 v] w fun e w' => e = .returned (.bool true) ∧ Below w.heap.size w w' := by
  obtain ⟨hnL, hc0, hx0, hok0, hatL⟩ := wi0
  have hv9 := (wf_boundsT wi1).2
  clear hc0 hx0 hok0 wi1
  obtain ⟨w1, HW1⟩ : ∃ w1, Hid (w = w1) := ⟨_, Lib.hid rfl⟩
  have hb : Below w.heap.size w w1 := by rw [← HW1.out]; exact Below.refl _ _
  rw [HW1.out] at hatL
  by_cases hs : (1000 : Int) < (nL : Int)
  · have HNL := Lib.hid hnL
    clear hnL
    go_enter Try.func10, Try.ntmps10
    go_wp2_with fail
    refine (bigInts_is true _ _ _ _ _ (decide_eq_true hs)).mono ?_
    rintro e w2 ⟨rfl, rfl⟩
    go_wp2_with fail
    refine (alive_any _).mono ?_
    rintro e w2 ⟨rfl, rfl⟩
    go_wp2
    go_ret
    exact ⟨rfl, Below.refl _ _⟩
  have HNL := Lib.hid hnL
  clear hnL
  go_enter Try.func10, Try.ntmps10
  go_wp2_with fail
  refine (bigInts_is false _ _ _ _ _ (decide_eq_false (by omega))).mono ?_
  rintro e w2 ⟨rfl, rfl⟩
  have hnL9 : nL ≤ 1000 := by omega
  rw [HW1.out]
  have hnL := HNL.out
  clear HNL hs
  obtain ⟨C, hC⟩ : ∃ C, chosenN L v = C := ⟨_, rfl⟩
  have hCl : C.length ≤ 1000 := by have h := chosenN_len L v; rw [hC] at h; omega
  have hCu : C.Pairwise (· < ·) := by rw [← hC]; exact chosenN_up L v
  have c1 := implChosen_any L aL nL cL v w1 hnL (by omega) hv9 hatL
  rw [hC] at c1
  have HNL := Lib.hid hnL
  have HC := Lib.hid hC
  have HCl := Lib.hid hCl
  have HCu := Lib.hid hCu
  have HT := Lib.hid hatL
  clear hnL hC hCl hCu hatL
  go_wp2_with fail
  refine c1.mono ?_
  rintro e w2 ⟨a2, n2, c2', rfl, o2⟩
  have HN2 := Lib.hid (show n2 = C.length by have h := o2.own.1; rw [natC_len] at h; omega)
  have hatL2 := HT.out.below o2.below
  have hb2 := hb.trans (o2.below.mono hb.size)
  clear c1 hb HT
  have c2 := specChosen_any L aL nL cL v w2 HNL.out (by omega) hv9 hatL2
  rw [HC.out] at c2
  go_wp2_with fail
  refine c2.mono ?_
  rintro e w3 ⟨a3, n3, c3', rfl, o3⟩
  have HN3 := Lib.hid (show n3 = C.length by have h := o3.own.1; rw [natC_len] at h; omega)
  have hatL3 := hatL2.below o3.below
  have hb3 := hb2.trans (o3.below.mono hb2.size)
  have o23 := o2.later o3.below
  clear c2 hb2 hatL2 o2
  go_wp2_with fail
  refine (sameNats_b a2 a3 n2 n3 _ _ C _ HN2.out HN3.out (by have := HN2.out; have := HCl.out; omega) o23.at_ o3.at_).mono ?_
  rintro e w4 ⟨rfl, q4, rfl⟩
  go_wp2_with fail
  refine (risingNats_b a2 n2 _ C _ HN2.out (by have := HN2.out; have := HCl.out; omega) (o23.at_.drewN _) HCu.out).mono ?_
  rintro e w5 ⟨rfl, q5, rfl⟩
  have R : RdC w ((w3.drewN q4).drewN q5) aL L a2 C := ⟨below_drewN' (below_drewN' hb3 _) _, (hatL3.drewN _).drewN _, (o23.at_.drewN _).drewN _⟩
  obtain ⟨w5, HW⟩ : ∃ w5, Hid ((w3.drewN q4).drewN q5 = w5) := ⟨_, Lib.hid rfl⟩
  rw [HW.out] at R ⊢
  clear hb3 hatL3 o23 o3 HN3 HW HCu
  by_cases hv1 : v < 1
  · have hn0 : n2 = 0 := by rw [HN2.out, ← HC.out, chosenN_few (.inl hv1)]; rfl
    subst hn0
    clear HN2
    go_wp2_with fail
    refine (alive_any _).mono ?_
    rintro e w6 ⟨rfl, rfl⟩
    go_wp2
    go_ret
    exact ⟨rfl, R.below⟩
  by_cases hv2 : (nL : Int) < v
  · have hn0 : n2 = 0 := by rw [HN2.out, ← HC.out, chosenN_few (.inr (by rw [← HNL.out]; exact hv2))]; rfl
    subst hn0
    clear HN2
    go_wp2_with fail
    refine (alive_any _).mono ?_
    rintro e w6 ⟨rfl, rfl⟩
    go_wp2
    go_ret
    exact ⟨rfl, R.below⟩
  obtain ⟨v, rfl⟩ : ∃ u : Nat, v = u := ⟨v.toNat, by omega⟩
  have hv3 : 1 ≤ v := by omega
  have hv4 : v ≤ nL := by omega
  have hn29 : n2 ≤ 1000 := by have := HN2.out; have := HCl.out; omega
  obtain ⟨k1, k2, k3, k4⟩ := chosen_of HNL.out hv3 hv4 HC.out
  have K1 := Lib.hid k1
  have K2 := Lib.hid k2
  have K3 := Lib.hid k3
  obtain ⟨gL, oL, rfl, -, -⟩ := R.lat.spot (fun e => by have h1 := congrArg List.length e; have h2 := HNL.out; simp [intCells] at h1; rw [h1] at h2; simp at h2; omega)
  obtain ⟨gC, oC, rfl, -, -⟩ := R.cat.spot (fun e => k4 (by simpa [natC, intCells] using e))
  have tv1 : decide ((v : Int) < 1) = false := decide_eq_false (by omega)
  have tv2 : decide ((nL : Int) < (v : Int)) = false := decide_eq_false (by omega)
  have tv3 : decide (nL < v) = false := decide_eq_false (by omega)
  clear k1 k2 k3 k4 HC HCl hv1 hv2 hv9
  go_wp2
  go_loopw [6] (fun k_ wr => ∃ m : Nat, m ≤ nL + 1 - v ∧ k_ = .int .i64 m ∧ RdC w wr (some ⟨gL, oL, none⟩) L (some ⟨gC, oC, none⟩) C) (fun k_ _ => nL + 1 - v - (intOf k_).toNat)
  case atStart => exact ⟨0, Nat.zero_le _, rfl, R⟩
  case round =>
    clear R
    obtain ⟨m, hm, rfl, R⟩ := hrel
    by_cases hlt : m + v ≤ nL
    · obtain ⟨i0, hi0, hx⟩ := K1.out m hlt
      have hlt2 : (m : Int) + (v : Int) ≤ (nL : Int) := by omega
      have hlt3 : decide (m + v ≤ nL) = true := decide_eq_true hlt
      have HL := Lib.hid (leastTo_is L m v (by omega))
      obtain ⟨x, hxe⟩ : ∃ x, leastTo L m v = x := ⟨_, rfl⟩
      rw [hxe] at HL hx
      have HX := Lib.hid hx
      have hi0n : i0 < n2 := by have := HN2.out; omega
      clear hx hxe hi0
      go_wp2
      go_loopw [7, 8] (fun b_ i_ wr => ∃ (i : Nat) (b : Bool), i ≤ n2 ∧ i_ = .int .i64 i ∧ b_ = .bool b ∧ Hid (i0 < i → b = true) ∧ RdC w wr (some ⟨gL, oL, none⟩) L (some ⟨gC, oC, none⟩) C) (fun _ i_ _ => n2 - (intOf i_).toNat)
      case atStart => exact ⟨0, false, Nat.zero_le _, rfl, rfl, Lib.hid (fun h => absurd h (Nat.not_lt_zero _)), R⟩
      case round =>
        clear R
        obtain ⟨i, b, hi, rfl, rfl, HB, R⟩ := hrel
        by_cases hli : i < n2
        · have hiC : i < C.length := by have := HN2.out; omega
          obtain ⟨c, hc⟩ : ∃ c, C.getD i 0 = c := ⟨_, rfl⟩
          have hc9 : c < nL := by rw [← hc]; exact K2.out i hiC
          have g1 := R.place i c hc hiC
          have HCc := Lib.hid hc
          have HI := Lib.hid (show i = i0 → c = x from fun e => by rw [← hc, e]; exact HX.out)
          have z1 : (i : Int) < (n2 : Int) := by omega
          by_cases hin : m ≤ c ∧ c < m + v
          · obtain ⟨y, hy⟩ : ∃ y, L.getD c 0 = y := ⟨_, rfl⟩
            have HY := Lib.hid (show c = x → ∀ j, m ≤ j → j < m + v → y ≤ L.getD j 0 from fun e => by rw [← hy, e]; exact HL.out.least)
            have HYc := Lib.hid hy
            have hin1 : (m : Int) ≤ (c : Int) := by omega
            have hin2 : (c : Int) < (m : Int) + (v : Int) := by omega
            clear hc hy hin
            go_wp2
            go_loopw [9, 10] (fun s_ j_ wr => ∃ (d e : Nat) (b3 : Bool), d ≤ v ∧ Hid (m + d = e) ∧ j_ = .int .i64 e ∧ s_ = .bool b3 ∧ Hid (c = x → b3 = true) ∧ RdC w wr (some ⟨gL, oL, none⟩) L (some ⟨gC, oC, none⟩) C) (fun _ j_ _ => m + v - (intOf j_).toNat)
            case atStart => exact ⟨0, m, true, Nat.zero_le _, Lib.hid rfl, rfl, rfl, Lib.hid (fun _ => rfl), R⟩
            case round =>
              clear R g1
              obtain ⟨d, e, b3, hd, HE, rfl, rfl, HB3, R⟩ := hrel
              by_cases hld : d < v
              · have he1 : (e : Int) < (m : Int) + (v : Int) := by have := HE.out; omega
                have he2 : e < nL := by have := HE.out; omega
                obtain ⟨z, hz⟩ : ∃ z, L.getD e 0 = z := ⟨_, rfl⟩
                have g1 := R.place i c HCc.out hiC
                have g2 := R.num c y HYc.out (by have := HNL.out; omega)
                have g3 := R.num e z hz (by have := HNL.out; omega)
                have HZ := Lib.hid (show c = x → y ≤ z from fun h => by rw [← hz]; exact HY.out h e (by have := HE.out; omega) (by have := HE.out; omega))
                have y0 : (0 : Int) ≤ (e : Int) := by omega
                have y1 : (e : Int) < (nL : Int) := by omega
                have y2 : (0 : Int) ≤ (c : Int) := by omega
                have y3 : (c : Int) < (nL : Int) := by omega
                have y4 : (0 : Int) ≤ (i : Int) := by omega
                clear hz
                cases b3 with
                | false =>
                  go_wp2
                  go_quiet (fail)
                  go_wp2
                  go_roundw
                  case rel => exact ⟨d + 1, e + 1, false, by omega, Lib.hid (by have := HE.out; omega), by go_num, rfl, HB3, R.drewN _⟩
                  case measure => simp [intOf]; have := HE.out; omega
                | true =>
                  go_wp2
                  go_quiet (fail)
                  go_wp2
                  go_roundw
                  case rel => exact ⟨d + 1, e + 1, decide (y ≤ z), by omega, Lib.hid (by have := HE.out; omega), by go_num, rfl, Lib.hid (fun h => decide_eq_true (HZ.out h)), R.drewN _⟩
                  case measure => simp [intOf]; have := HE.out; omega
              · have he1 : (m : Int) + (v : Int) ≤ (e : Int) := by have := HE.out; omega
                have HN := Lib.hid (show i0 < i + 1 → (b || b3) = true from fun h => by
                  by_cases h2 : i0 < i
                  · rw [HB.out h2]; rfl
                  · rw [HB3.out (HI.out (by omega))]; simp)
                clear HB HB3
                cases b with
                | false =>
                  cases b3 with
                  | false =>
                    go_wp2
                    go_roundw
                    case rel => exact ⟨i + 1, false, by omega, by go_num, rfl, Lib.hid HN.out, R⟩
                    case measure => simp [intOf]; omega
                  | true =>
                    go_wp2
                    go_roundw
                    case rel => exact ⟨i + 1, true, by omega, by go_num, rfl, Lib.hid (fun _ => rfl), R⟩
                    case measure => simp [intOf]; omega
                | true =>
                  go_wp2
                  go_roundw
                  case rel => exact ⟨i + 1, true, by omega, by go_num, rfl, Lib.hid (fun _ => rfl), R⟩
                  case measure => simp [intOf]; omega
          · have HN := Lib.hid (show i0 < i + 1 → b = true from fun h => by
              by_cases h2 : i0 < i
              · exact HB.out h2
              · exfalso
                have h3 := HI.out (by omega)
                subst h3
                exact hin ⟨HL.out.lo, HL.out.hi⟩)
            clear hc
            by_cases hlo : m ≤ c
            · have hlo1 : (m : Int) ≤ (c : Int) := by omega
              have hhi1 : (m : Int) + (v : Int) ≤ (c : Int) := by omega
              clear hin
              go_wp2
              go_roundw
              case rel => exact ⟨i + 1, b, by omega, by go_num, rfl, HN, R⟩
              case measure => simp [intOf]; omega
            · have hlo1 : (c : Int) < (m : Int) := by omega
              clear hin
              go_wp2
              go_roundw
              case rel => exact ⟨i + 1, b, by omega, by go_num, rfl, HN, R⟩
              case measure => simp [intOf]; omega
        · obtain rfl : b = true := HB.out (by omega)
          clear HB
          go_wp2
          go_roundw
          case rel => exact ⟨m + 1, by omega, by go_num, R⟩
          case measure => simp [intOf]; omega
    · have hlt2 : (nL : Int) < (m : Int) + (v : Int) := by omega
      have hlt3 : decide (m + v ≤ nL) = false := decide_eq_false hlt
      go_wp2
      go_loopw [11] (fun i_ wr => ∃ i : Nat, i ≤ n2 ∧ i_ = .int .i64 i ∧ RdC w wr (some ⟨gL, oL, none⟩) L (some ⟨gC, oC, none⟩) C) (fun i_ _ => n2 - (intOf i_).toNat)
      case atStart => exact ⟨0, Nat.zero_le _, rfl, R⟩
      case round =>
        clear R hlt hlt2 hlt3 hm
        obtain ⟨i, hi, rfl, R⟩ := hrel
        by_cases hli : i < n2
        · have hiC : i < C.length := by have := HN2.out; omega
          obtain ⟨c, hc⟩ : ∃ c, C.getD i 0 = c := ⟨_, rfl⟩
          have hc9 : c < nL := by rw [← hc]; exact K2.out i hiC
          have g1 := R.place i c hc hiC
          have y2 : (0 : Int) ≤ (c : Int) := by omega
          have y3 : (c : Int) < (nL : Int) := by omega
          have t1 : decide ((c : Int) < 0) = false := decide_eq_false (by omega)
          have t2 : decide ((nL : Int) ≤ (c : Int)) = false := decide_eq_false (by omega)
          have t2' : decide (nL ≤ c) = false := decide_eq_false (by omega)
          have t2n : ¬ nL ≤ c := by omega
          have z1 : (i : Int) < (n2 : Int) := by omega
          by_cases h0 : i = 0
          · have t0 : decide ((0 : Int) < (i : Int)) = false := decide_eq_false (by omega)
            have t0' : decide (0 < i) = false := decide_eq_false (by omega)
            have HI0 := Lib.hid h0
            clear hc h0
            go_wp2
            go_quiet (fail)
            go_wp2
            go_roundw
            case rel => exact ⟨i + 1, by omega, by go_num, R.drewN _⟩
            case measure => simp [intOf]; omega
          · obtain ⟨p, hp⟩ : ∃ p, i = p + 1 := ⟨i - 1, by omega⟩
            obtain ⟨u, hu⟩ : ∃ u, C.getD p 0 = u := ⟨_, rfl⟩
            have hnear := K3.out p (by omega)
            rw [← hp, hc, hu] at hnear
            have g2 := R.place p u hu (by omega)
            have hu9 : u < nL := by rw [← hu]; exact K2.out p (by omega)
            have y4 : (0 : Int) ≤ (p : Int) := by omega
            have y5 : (p : Int) < (n2 : Int) := by omega
            have e1 : IntKind.i64.wrap ((i : Int) - 1) = (p : Int) := by rw [IntWalk.i64_in _ (by omega)]; omega
            have e2 : (i : Int) - 1 = (p : Int) := by omega
            have e3 : IntKind.i64.wrap ((c : Int) - (u : Int)) = (c : Int) - (u : Int) := IntWalk.i64_in _ (by omega)
            have t3 : decide ((v : Int) < (c : Int) - (u : Int)) = false := decide_eq_false (by omega)
            have t0 : decide ((0 : Int) < (i : Int)) = true := decide_eq_true (by omega)
            have t0' : decide (0 < i) = true := decide_eq_true (by omega)
            have t4 : (0 : Int) < (i : Int) := by omega
            have HP := Lib.hid hp
            clear hc hu hnear hp h0
            go_wp2
            go_quiet (fail)
            go_wp2
            go_roundw
            case rel => exact ⟨i + 1, by omega, by go_num, R.drewN _⟩
            case measure => simp [intOf]; omega
        · go_wp2_with fail
          refine (alive_any _).mono ?_
          rintro e w6 ⟨rfl, rfl⟩
          go_wp2
          go_ret
          exact ⟨rfl, R.below⟩

end Go.Proofs.Ytjebgoekcaogbaa
