/-
  The walks of chapter 4's laws ChosenOf and AnyChosenOf: each returns true, and nothing that was there is written. No conditions.
-/
import Derived.Test.YtjebgoekcaogbaaMarksI
import Derived.Test.YtjebgoekcaogbaaDrawD
import Derived.Test.YtjebgoekcaogbaaHelpA
import Derived.Test.YtjebgoekcaogbaaHelpS
namespace Go.Proofs.Ytjebgoekcaogbaa
open Go.RowKit

theorem wf_boundsT {n : Int} (h : (Lit.int .i64 n).wf = true) : -9223372036854775808 ≤ n ∧ n ≤ 9223372036854775807 := by
  simp [Lit.wf, IntKind.min, IntKind.max, IntKind.signed, IntKind.bits] at h
  omega
theorem bigInts_is (b : Bool) (a : Option Addr) (m c : Nat) (n : Int) (w : World) (h : decide (n < m) = b) : Calls Try.prog 34 #[.slice a m c, .int .i64 n] w fun e w' => e = .returned (.bool b) ∧ w = w' := by
  subst h
  go_enter Try.func34, Try.ntmps34
  go_wp2
  go_ret
  exact ⟨rfl, rfl⟩

theorem natC_atC {w : World} {a : Option Addr} {C : List Nat} (h : CellsAt w a (natC C)) : IntsAt w a (C.map fun (n : Nat) => (n : Int)) :=
  ⟨fun hne => by
    obtain ⟨b, o, ha, _, hc⟩ := h.spot (by simpa [natC, intCells] using hne)
    refine ⟨b, o, ha, fun j hj => hc j _ ?_⟩
    rw [List.length_map] at hj
    simp [natC, intCells, List.getD, hj]⟩
theorem sameNats_b (a b : Option Addr) (n m c d : Nat) (C : List Nat) (w : World) (hn : n = C.length) (hm : m = C.length) (hl : n < 1099511627776) (h1 : CellsAt w a (natC C)) (h2 : CellsAt w b (natC C)) :
    Calls Try.prog 15 #[.slice a n c, .slice b m d] w fun e w' => e = .returned (.bool true) ∧ ∃ q, w' = w.drewN q := by
  subst hm; subst hn
  have h := sameInts_same a b c d (C.map fun (n : Nat) => (n : Int)) w (by rw [List.length_map]; exact hl) (natC_atC h1) (natC_atC h2)
  rwa [List.length_map] at h
theorem risingNats_b (a : Option Addr) (n c : Nat) (C : List Nat) (w : World) (hn : n = C.length) (hl : n < 1099511627776) (h1 : CellsAt w a (natC C)) (hu : C.Pairwise (· < ·)) :
    Calls Try.prog 17 #[.slice a n c] w fun e w' => e = .returned (.bool true) ∧ ∃ q, w' = w.drewN q := by
  subst hn
  have h := rising_yes a c (C.map fun (n : Nat) => (n : Int)) w (by rw [List.length_map]; exact hl) (natC_atC h1) (fun j hj => by
    rw [List.length_map] at hj
    have h := up_get hu (show j < j + 1 by omega) hj
    simp only [List.getD_eq_getElem?_getD, List.getElem?_map]
    have e1 : C[j]? = some C[j] := List.getElem?_eq_getElem (by omega)
    have e2 : C[j + 1]? = some C[j + 1] := List.getElem?_eq_getElem hj
    simp only [List.getD_eq_getElem?_getD, e1, e2] at h
    simp only [e1, e2, Option.map_some, Option.getD_some] at h ⊢
    omega)
  rwa [List.length_map] at h

/-- What is read in the loops: the numbers and the chosen places. -/
structure RdC (w wr : World) (a : Option Addr) (L : List Int) (a' : Option Addr) (C : List Nat) : Prop where
  below : Below w.heap.size w wr
  lat : CellsAt wr a (intCells L)
  cat : CellsAt wr a' (natC C)
theorem RdC.drewN {w wr : World} {a : Option Addr} {L : List Int} {a' : Option Addr} {C : List Nat} (h : RdC w wr a L a' C) (q : Nat) : RdC w (wr.drewN q) a L a' C := ⟨below_drewN' h.below q, h.lat.drewN q, h.cat.drewN q⟩
theorem RdC.num {w wr : World} {b o : Nat} {L : List Int} {a' : Option Addr} {C : List Nat} (h : RdC w wr (some ⟨b, o, none⟩) L a' C) (j : Nat) (x : Int) (hx : L.getD j 0 = x) (hj : j < L.length) : wr.cell? ⟨b, o + j, none⟩ = some (.int .i64 x) := by
  obtain ⟨b', o', ha, _, hc⟩ := h.lat.spot (fun e => by have := congrArg List.length e; simp [intCells] at this; rw [this] at hj; simp at hj)
  obtain ⟨rfl, rfl⟩ := (by simpa using ha : b = b' ∧ o = o')
  exact cells_int j x hx hj hc
theorem RdC.place {w wr : World} {b o : Nat} {L : List Int} {a : Option Addr} {C : List Nat} (h : RdC w wr a L (some ⟨b, o, none⟩) C) (j : Nat) (x : Nat) (hx : C.getD j 0 = x) (hj : j < C.length) : wr.cell? ⟨b, o + j, none⟩ = some (.int .i64 (x : Nat)) := by
  obtain ⟨b', o', ha, _, hc⟩ := h.cat.spot (fun e => by have := congrArg List.length e; simp [natC, intCells] at this; rw [this] at hj; simp at hj)
  obtain ⟨rfl, rfl⟩ := (by simpa using ha : b = b' ∧ o = o')
  rw [← hx]
  exact natC_cell hc j hj

theorem chosen_of {L : List Int} {v n : Nat} {C : List Nat} (hn : n = L.length) (hv : 1 ≤ v) (hvn : v ≤ n) (hC : chosenN L v = C) :
    (∀ m, m + v ≤ n → ∃ i, i < C.length ∧ C.getD i 0 = leastTo L m v) ∧ (∀ i, i < C.length → C.getD i 0 < n) ∧ (∀ i, i + 1 < C.length → C.getD (i + 1) 0 ≤ C.getD i 0 + v) ∧ C ≠ [] := by
  subst hn
  have h1 : ∀ m, m + v ≤ L.length → ∃ i, i < C.length ∧ C.getD i 0 = leastTo L m v := fun m hm => by
    have h : leastTo L m v ∈ C := by rw [← hC, chosenN_ok (by omega)]; exact (chN_mem _ _ _ _).2 ⟨m, by omega, rfl⟩
    obtain ⟨i, hi, he⟩ := List.getElem_of_mem h
    exact ⟨i, hi, by simp [List.getD_eq_getElem?_getD, hi, he]⟩
  refine ⟨h1, fun i hi => ?_, fun i hi => ?_, fun e => ?_⟩
  · exact chosenN_lt L v _ (by rw [hC]; exact getD_mem hi)
  · rw [← hC, chosenN_ok (by omega)] at hi ⊢
    exact chN_near L v _ (by omega) i hi
  · obtain ⟨i, hi, _⟩ := h1 0 (by omega)
    rw [e] at hi
    simp at hi

set_option maxRecDepth 2000 in
set_option maxHeartbeats 16000000 in
theorem walkFnChosenOf (a : Option Addr) (len cap : Nat) (zs : List Int) (w : World) (h : IsRowK .u8 w a len cap zs) :
    Calls Try.prog 3 #[.slice a len cap] w fun e w' => e = .returned (.bool true) ∧ Below w.heap.size w w' := by
  by_cases hs : 1048576 < len
  · have h2 : (1048576 : Int) < (len : Int) := by omega
    go_enter Try.func3, Try.ntmps3
    go_wp2
    go_ret
    exact ⟨rfl, Below.refl _ _⟩
  go_enter Try.func3, Try.ntmps3
  go_wp2_with fail
  refine (DrawChosenOf_any _ _ _ _ _ h).mono ?_
  rintro e w1 ⟨L, aL, nL, cL, v, hnL8, hv0, hv8, rfl, oL⟩
  clear h
  have hnL : nL = L.length := by have h := oL.own.1; simp only [intCells, List.length_map] at h; omega
  have hv9 : v ≤ 9223372036854775807 := by omega
  have hnL9 : nL ≤ 1000 := by omega
  clear hv0 hv8 hnL8
  have hb := oL.below
  have hatL := oL.at_
  clear oL
  obtain ⟨C, hC⟩ : ∃ C, chosenN L v = C := ⟨_, rfl⟩
  have hCl : C.length ≤ 1000 := by have h := chosenN_len L v; rw [hC] at h; omega
  have hCu : C.Pairwise (· < ·) := by rw [← hC]; exact chosenN_up L v
  have c1 := implChosen_any L aL nL cL v w1 hnL (by omega) hv9 hatL
  rw [hC] at c1
  have HNL := Lib.hid hnL
  have HC := Lib.hid hC
  have HCl := Lib.hid hCl
  have HCu := Lib.hid hCu
  have HT := Lib.hid hatL
  clear hnL hC hCl hCu hatL
  go_wp2_with fail
  refine c1.mono ?_
  rintro e w2 ⟨a2, n2, c2', rfl, o2⟩
  have HN2 := Lib.hid (show n2 = C.length by have h := o2.own.1; rw [natC_len] at h; omega)
  have hatL2 := HT.out.below o2.below
  have hb2 := hb.trans (o2.below.mono hb.size)
  clear c1 hb HT
  have c2 := specChosen_any L aL nL cL v w2 HNL.out (by omega) hv9 hatL2
  rw [HC.out] at c2
  go_wp2_with fail
  refine c2.mono ?_
  rintro e w3 ⟨a3, n3, c3', rfl, o3⟩
  have HN3 := Lib.hid (show n3 = C.length by have h := o3.own.1; rw [natC_len] at h; omega)
  have hatL3 := hatL2.below o3.below
  have hb3 := hb2.trans (o3.below.mono hb2.size)
  have o23 := o2.later o3.below
  clear c2 hb2 hatL2 o2
  go_wp2_with fail
  refine (sameNats_b a2 a3 n2 n3 _ _ C _ HN2.out HN3.out (by have := HN2.out; have := HCl.out; omega) o23.at_ o3.at_).mono ?_
  rintro e w4 ⟨rfl, q4, rfl⟩
  go_wp2_with fail
  refine (risingNats_b a2 n2 _ C _ HN2.out (by have := HN2.out; have := HCl.out; omega) (o23.at_.drewN _) HCu.out).mono ?_
  rintro e w5 ⟨rfl, q5, rfl⟩
  have R : RdC w ((w3.drewN q4).drewN q5) aL L a2 C := ⟨below_drewN' (below_drewN' hb3 _) _, (hatL3.drewN _).drewN _, (o23.at_.drewN _).drewN _⟩
  obtain ⟨w5, HW⟩ : ∃ w5, Hid ((w3.drewN q4).drewN q5 = w5) := ⟨_, Lib.hid rfl⟩
  rw [HW.out] at R ⊢
  clear hb3 hatL3 o23 o3 HN3 HW HCu
  by_cases hv1 : v < 1
  · have hn0 : n2 = 0 := by rw [HN2.out, ← HC.out, chosenN_few (.inl hv1)]; rfl
    subst hn0
    clear HN2
    go_wp2_with fail
    refine (alive_any _).mono ?_
    rintro e w6 ⟨rfl, rfl⟩
    go_wp2
    go_ret
    exact ⟨rfl, R.below⟩
  by_cases hv2 : (nL : Int) < v
  · have hn0 : n2 = 0 := by rw [HN2.out, ← HC.out, chosenN_few (.inr (by rw [← HNL.out]; exact hv2))]; rfl
    subst hn0
    clear HN2
    go_wp2_with fail
    refine (alive_any _).mono ?_
    rintro e w6 ⟨rfl, rfl⟩
    go_wp2
    go_ret
    exact ⟨rfl, R.below⟩
  obtain ⟨v, rfl⟩ : ∃ u : Nat, v = u := ⟨v.toNat, by omega⟩
  have hv3 : 1 ≤ v := by omega
  have hv4 : v ≤ nL := by omega
  have hn29 : n2 ≤ 1000 := by have := HN2.out; have := HCl.out; omega
  obtain ⟨k1, k2, k3, k4⟩ := chosen_of HNL.out hv3 hv4 HC.out
  have K1 := Lib.hid k1
  have K2 := Lib.hid k2
  have K3 := Lib.hid k3
  obtain ⟨gL, oL, rfl, -, -⟩ := R.lat.spot (fun e => by have h1 := congrArg List.length e; have h2 := HNL.out; simp [intCells] at h1; rw [h1] at h2; simp at h2; omega)
  obtain ⟨gC, oC, rfl, -, -⟩ := R.cat.spot (fun e => k4 (by simpa [natC, intCells] using e))
  have tv1 : decide ((v : Int) < 1) = false := decide_eq_false (by omega)
  have tv2 : decide ((nL : Int) < (v : Int)) = false := decide_eq_false (by omega)
  have tv3 : decide (nL < v) = false := decide_eq_false (by omega)
  clear k1 k2 k3 k4 HC HCl hv1 hv2 hv9
  go_wp2
  go_loopw [6] (fun k_ wr => ∃ m : Nat, m ≤ nL + 1 - v ∧ k_ = .int .i64 m ∧ RdC w wr (some ⟨gL, oL, none⟩) L (some ⟨gC, oC, none⟩) C) (fun k_ _ => nL + 1 - v - (intOf k_).toNat)
  case atStart => exact ⟨0, Nat.zero_le _, rfl, R⟩
  case round =>
    clear R
    obtain ⟨m, hm, rfl, R⟩ := hrel
    by_cases hlt : m + v ≤ nL
    · obtain ⟨i0, hi0, hx⟩ := K1.out m hlt
      have hlt2 : (m : Int) + (v : Int) ≤ (nL : Int) := by omega
      have hlt3 : decide (m + v ≤ nL) = true := decide_eq_true hlt
      have HL := Lib.hid (leastTo_is L m v (by omega))
      obtain ⟨x, hxe⟩ : ∃ x, leastTo L m v = x := ⟨_, rfl⟩
      rw [hxe] at HL hx
      have HX := Lib.hid hx
      have hi0n : i0 < n2 := by have := HN2.out; omega
      clear hx hxe hi0
      go_wp2
      go_loopw [7, 8] (fun b_ i_ wr => ∃ (i : Nat) (b : Bool), i ≤ n2 ∧ i_ = .int .i64 i ∧ b_ = .bool b ∧ Hid (i0 < i → b = true) ∧ RdC w wr (some ⟨gL, oL, none⟩) L (some ⟨gC, oC, none⟩) C) (fun _ i_ _ => n2 - (intOf i_).toNat)
      case atStart => exact ⟨0, false, Nat.zero_le _, rfl, rfl, Lib.hid (fun h => absurd h (Nat.not_lt_zero _)), R⟩
      case round =>
        clear R
        obtain ⟨i, b, hi, rfl, rfl, HB, R⟩ := hrel
        by_cases hli : i < n2
        · have hiC : i < C.length := by have := HN2.out; omega
          obtain ⟨c, hc⟩ : ∃ c, C.getD i 0 = c := ⟨_, rfl⟩
          have hc9 : c < nL := by rw [← hc]; exact K2.out i hiC
          have g1 := R.place i c hc hiC
          have HCc := Lib.hid hc
          have HI := Lib.hid (show i = i0 → c = x from fun e => by rw [← hc, e]; exact HX.out)
          have z1 : (i : Int) < (n2 : Int) := by omega
          by_cases hin : m ≤ c ∧ c < m + v
          · obtain ⟨y, hy⟩ : ∃ y, L.getD c 0 = y := ⟨_, rfl⟩
            have HY := Lib.hid (show c = x → ∀ j, m ≤ j → j < m + v → y ≤ L.getD j 0 from fun e => by rw [← hy, e]; exact HL.out.least)
            have HYc := Lib.hid hy
            have hin1 : (m : Int) ≤ (c : Int) := by omega
            have hin2 : (c : Int) < (m : Int) + (v : Int) := by omega
            clear hc hy hin
            go_wp2
            go_loopw [9, 10] (fun s_ j_ wr => ∃ (d e : Nat) (b3 : Bool), d ≤ v ∧ Hid (m + d = e) ∧ j_ = .int .i64 e ∧ s_ = .bool b3 ∧ Hid (c = x → b3 = true) ∧ RdC w wr (some ⟨gL, oL, none⟩) L (some ⟨gC, oC, none⟩) C) (fun _ j_ _ => m + v - (intOf j_).toNat)
            case atStart => exact ⟨0, m, true, Nat.zero_le _, Lib.hid rfl, rfl, rfl, Lib.hid (fun _ => rfl), R⟩
            case round =>
              clear R g1
              obtain ⟨d, e, b3, hd, HE, rfl, rfl, HB3, R⟩ := hrel
              by_cases hld : d < v
              · have he1 : (e : Int) < (m : Int) + (v : Int) := by have := HE.out; omega
                have he2 : e < nL := by have := HE.out; omega
                obtain ⟨z, hz⟩ : ∃ z, L.getD e 0 = z := ⟨_, rfl⟩
                have g1 := R.place i c HCc.out hiC
                have g2 := R.num c y HYc.out (by have := HNL.out; omega)
                have g3 := R.num e z hz (by have := HNL.out; omega)
                have HZ := Lib.hid (show c = x → y ≤ z from fun h => by rw [← hz]; exact HY.out h e (by have := HE.out; omega) (by have := HE.out; omega))
                have y0 : (0 : Int) ≤ (e : Int) := by omega
                have y1 : (e : Int) < (nL : Int) := by omega
                have y2 : (0 : Int) ≤ (c : Int) := by omega
                have y3 : (c : Int) < (nL : Int) := by omega
                have y4 : (0 : Int) ≤ (i : Int) := by omega
                clear hz
                cases b3 with
                | false =>
                  go_wp2
                  go_quiet (fail)
                  go_wp2
                  go_roundw
                  case rel => exact ⟨d + 1, e + 1, false, by omega, Lib.hid (by have := HE.out; omega), by go_num, rfl, HB3, R.drewN _⟩
                  case measure => simp [intOf]; have := HE.out; omega
                | true =>
                  go_wp2
                  go_quiet (fail)
                  go_wp2
                  go_roundw
                  case rel => exact ⟨d + 1, e + 1, decide (y ≤ z), by omega, Lib.hid (by have := HE.out; omega), by go_num, rfl, Lib.hid (fun h => decide_eq_true (HZ.out h)), R.drewN _⟩
                  case measure => simp [intOf]; have := HE.out; omega
              · have he1 : (m : Int) + (v : Int) ≤ (e : Int) := by have := HE.out; omega
                have HN := Lib.hid (show i0 < i + 1 → (b || b3) = true from fun h => by
                  by_cases h2 : i0 < i
                  · rw [HB.out h2]; rfl
                  · rw [HB3.out (HI.out (by omega))]; simp)
                clear HB HB3
                cases b with
                | false =>
                  cases b3 with
                  | false =>
                    go_wp2
                    go_roundw
                    case rel => exact ⟨i + 1, false, by omega, by go_num, rfl, Lib.hid HN.out, R⟩
                    case measure => simp [intOf]; omega
                  | true =>
                    go_wp2
                    go_roundw
                    case rel => exact ⟨i + 1, true, by omega, by go_num, rfl, Lib.hid (fun _ => rfl), R⟩
                    case measure => simp [intOf]; omega
                | true =>
                  go_wp2
                  go_roundw
                  case rel => exact ⟨i + 1, true, by omega, by go_num, rfl, Lib.hid (fun _ => rfl), R⟩
                  case measure => simp [intOf]; omega
          · have HN := Lib.hid (show i0 < i + 1 → b = true from fun h => by
              by_cases h2 : i0 < i
              · exact HB.out h2
              · exfalso
                have h3 := HI.out (by omega)
                subst h3
                exact hin ⟨HL.out.lo, HL.out.hi⟩)
            clear hc
            by_cases hlo : m ≤ c
            · have hlo1 : (m : Int) ≤ (c : Int) := by omega
              have hhi1 : (m : Int) + (v : Int) ≤ (c : Int) := by omega
              clear hin
              go_wp2
              go_roundw
              case rel => exact ⟨i + 1, b, by omega, by go_num, rfl, HN, R⟩
              case measure => simp [intOf]; omega
            · have hlo1 : (c : Int) < (m : Int) := by omega
              clear hin
              go_wp2
              go_roundw
              case rel => exact ⟨i + 1, b, by omega, by go_num, rfl, HN, R⟩
              case measure => simp [intOf]; omega
        · obtain rfl : b = true := HB.out (by omega)
          clear HB
          go_wp2
          go_roundw
          case rel => exact ⟨m + 1, by omega, by go_num, R⟩
          case measure => simp [intOf]; omega
    · have hlt2 : (nL : Int) < (m : Int) + (v : Int) := by omega
      have hlt3 : decide (m + v ≤ nL) = false := decide_eq_false hlt
      go_wp2
      go_loopw [11] (fun i_ wr => ∃ i : Nat, i ≤ n2 ∧ i_ = .int .i64 i ∧ RdC w wr (some ⟨gL, oL, none⟩) L (some ⟨gC, oC, none⟩) C) (fun i_ _ => n2 - (intOf i_).toNat)
      case atStart => exact ⟨0, Nat.zero_le _, rfl, R⟩
      case round =>
        clear R hlt hlt2 hlt3 hm
        obtain ⟨i, hi, rfl, R⟩ := hrel
        by_cases hli : i < n2
        · have hiC : i < C.length := by have := HN2.out; omega
          obtain ⟨c, hc⟩ : ∃ c, C.getD i 0 = c := ⟨_, rfl⟩
          have hc9 : c < nL := by rw [← hc]; exact K2.out i hiC
          have g1 := R.place i c hc hiC
          have y2 : (0 : Int) ≤ (c : Int) := by omega
          have y3 : (c : Int) < (nL : Int) := by omega
          have t1 : decide ((c : Int) < 0) = false := decide_eq_false (by omega)
          have t2 : decide ((nL : Int) ≤ (c : Int)) = false := decide_eq_false (by omega)
          have t2' : decide (nL ≤ c) = false := decide_eq_false (by omega)
          have t2n : ¬ nL ≤ c := by omega
          have z1 : (i : Int) < (n2 : Int) := by omega
          by_cases h0 : i = 0
          · have t0 : decide ((0 : Int) < (i : Int)) = false := decide_eq_false (by omega)
            have t0' : decide (0 < i) = false := decide_eq_false (by omega)
            have HI0 := Lib.hid h0
            clear hc h0
            go_wp2
            go_quiet (fail)
            go_wp2
            go_roundw
            case rel => exact ⟨i + 1, by omega, by go_num, R.drewN _⟩
            case measure => simp [intOf]; omega
          · obtain ⟨p, hp⟩ : ∃ p, i = p + 1 := ⟨i - 1, by omega⟩
            obtain ⟨u, hu⟩ : ∃ u, C.getD p 0 = u := ⟨_, rfl⟩
            have hnear := K3.out p (by omega)
            rw [← hp, hc, hu] at hnear
            have g2 := R.place p u hu (by omega)
            have hu9 : u < nL := by rw [← hu]; exact K2.out p (by omega)
            have y4 : (0 : Int) ≤ (p : Int) := by omega
            have y5 : (p : Int) < (n2 : Int) := by omega
            have e1 : IntKind.i64.wrap ((i : Int) - 1) = (p : Int) := by rw [IntWalk.i64_in _ (by omega)]; omega
            have e2 : (i : Int) - 1 = (p : Int) := by omega
            have e3 : IntKind.i64.wrap ((c : Int) - (u : Int)) = (c : Int) - (u : Int) := IntWalk.i64_in _ (by omega)
            have t3 : decide ((v : Int) < (c : Int) - (u : Int)) = false := decide_eq_false (by omega)
            have t0 : decide ((0 : Int) < (i : Int)) = true := decide_eq_true (by omega)
            have t0' : decide (0 < i) = true := decide_eq_true (by omega)
            have t4 : (0 : Int) < (i : Int) := by omega
            have HP := Lib.hid hp
            clear hc hu hnear hp h0
            go_wp2
            go_quiet (fail)
            go_wp2
            go_roundw
            case rel => exact ⟨i + 1, by omega, by go_num, R.drewN _⟩
            case measure => simp [intOf]; omega
        · go_wp2_with fail
          refine (alive_any _).mono ?_
          rintro e w6 ⟨rfl, rfl⟩
          go_wp2
          go_ret
          exact ⟨rfl, R.below⟩

end Go.Proofs.Ytjebgoekcaogbaa
