/-
  The walk of chapter 4's law TwinsOf: it returns true, and nothing that was there is written. No conditions.
-/
import Derived.Test.YtjebgoekcaogbaaLawsTU
namespace Go.Proofs.Ytjebgoekcaogbaa
open Go.RowKit

theorem twins_mem (A B : List (Int × Int)) (z : Int × Int) : z ∈ twinsL A B ↔ ∃ x ∈ A, ∃ y ∈ B, x.1 = y.1 ∧ z = (x.2, y.2) := by
  simp only [twinsL, rowT, List.mem_flatMap, List.mem_map, List.mem_filter]
  constructor
  · rintro ⟨x, hx, y, ⟨hy, h⟩, rfl⟩
    exact ⟨x, hx, y, hy, by simpa using h, rfl⟩
  · rintro ⟨x, hx, y, hy, h, rfl⟩
    exact ⟨x, hx, y, ⟨hy, by simpa using h⟩, rfl⟩

theorem twins_turned (A B : List (Int × Int)) (z : Int × Int) (h : z ∈ twinsL A B) : (z.2, z.1) ∈ twinsL B A := by
  obtain ⟨x, hx, y, hy, h1, rfl⟩ := (twins_mem A B z).1 h
  exact (twins_mem B A _).2 ⟨y, hy, x, hx, h1.symm, rfl⟩

theorem rowT_cons (y x : Int × Int) (A : List (Int × Int)) : (rowT y (x :: A)).length = (if y.1 == x.1 then 1 else 0) + (rowT y A).length := by
  simp only [rowT, List.length_map, List.filter_cons]
  by_cases h : (y.1 == x.1) = true
  · rw [if_pos h, if_pos h, List.length_cons]; omega
  · rw [if_neg h, if_neg h]; omega
theorem twins_cons_len (x : Int × Int) (A B : List (Int × Int)) : (twinsL B (x :: A)).length = (rowT x B).length + (twinsL B A).length := by
  induction B with
  | nil => simp [twinsL, rowT]
  | cons y B ih =>
    have h1 : twinsL (y :: B) (x :: A) = rowT y (x :: A) ++ twinsL B (x :: A) := by simp [twinsL]
    have h2 : twinsL (y :: B) A = rowT y A ++ twinsL B A := by simp [twinsL]
    rw [h1, h2, List.length_append, List.length_append, ih, rowT_cons, rowT_cons]
    have h3 : (y.1 == x.1) = (x.1 == y.1) := by rw [Bool.eq_iff_iff]; simp only [beq_iff_eq]; exact ⟨fun h => h.symm, fun h => h.symm⟩
    rw [h3]
    omega
theorem twins_nil (B : List (Int × Int)) : twinsL B [] = [] := by
  induction B with
  | nil => rfl
  | cons y B ih =>
    have h : twinsL (y :: B) [] = rowT y [] ++ twinsL B [] := by simp [twinsL]
    rw [h, ih]; rfl
theorem twins_len_turned (A B : List (Int × Int)) : (twinsL B A).length = (twinsL A B).length := by
  induction A with
  | nil => rw [twins_nil]; rfl
  | cons x A ih =>
    have h1 : twinsL (x :: A) B = rowT x B ++ twinsL A B := by simp [twinsL]
    rw [twins_cons_len, ih, h1, List.length_append]

/-- Ascending by the first place, then by the second. -/
def lexP (p q : Int × Int) : Prop := p.1 < q.1 ∨ p.1 = q.1 ∧ p.2 < q.2
theorem rowT_up (x : Int × Int) (B : List (Int × Int)) (hB : B.Pairwise (fun p q => p.2 < q.2)) : (rowT x B).Pairwise lexP := by
  induction B with
  | nil => exact .nil
  | cons y B ih =>
    rw [List.pairwise_cons] at hB
    have h1 := ih hB.2
    simp only [rowT, List.filter_cons] at h1 ⊢
    split
    · rw [List.map_cons, List.pairwise_cons]
      refine ⟨fun z hz => ?_, h1⟩
      simp only [List.mem_map, List.mem_filter] at hz
      obtain ⟨u, ⟨hu, _⟩, rfl⟩ := hz
      exact .inr ⟨rfl, hB.1 u hu⟩
    · exact h1
theorem twins_up (A B : List (Int × Int)) (hA : A.Pairwise (fun p q => p.2 < q.2)) (hB : B.Pairwise (fun p q => p.2 < q.2)) : (twinsL A B).Pairwise lexP := by
  induction A with
  | nil => exact .nil
  | cons x A ih =>
    rw [List.pairwise_cons] at hA
    have h1 : twinsL (x :: A) B = rowT x B ++ twinsL A B := by simp [twinsL]
    rw [h1, List.pairwise_append]
    refine ⟨rowT_up x B hB, ih hA.2, fun z hz u hu => ?_⟩
    simp only [rowT, List.mem_map] at hz
    obtain ⟨y, _, rfl⟩ := hz
    obtain ⟨x2, hx2, y2, _, _, rfl⟩ := (twins_mem A B u).1 hu
    exact .inl (hA.1 x2 hx2)
theorem marks_up (s : List UInt8) (K V : Int) : (marksL s K V).Pairwise (fun p q => p.2 < q.2) := by
  rw [marksL, List.pairwise_map]
  exact (chosenN_up (printsL s K) V).imp (fun h => by simpa using h)
theorem twins_at {T : List (Int × Int)} (h : T.Pairwise lexP) (i : Nat) (hi : i + 1 < T.length) : lexP (T[i]'(by omega)) T[i + 1] :=
  List.pairwise_iff_getElem.1 h i (i + 1) (by omega) hi (by omega)

set_option maxRecDepth 4000 in
set_option maxHeartbeats 16000000 in
theorem walkFnTwinsOf (a : Option Addr) (len cap : Nat) (zs : List Int) (w : World) (h : IsRowK .u8 w a len cap zs) :
    Calls Try.prog 8 #[.slice a len cap] w fun e w' => e = .returned (.bool true) ∧ Below w.heap.size w w' := by
  by_cases hs : 1048576 < len
  · have h2 : (1048576 : Int) < (len : Int) := by omega
    go_enter Try.func8, Try.ntmps8
    go_wp2
    go_ret
    exact ⟨rfl, Below.refl _ _⟩
  go_enter Try.func8, Try.ntmps8
  go_wp2_with fail
  refine (DrawTwinsOf_any _ _ _ _ _ h).mono ?_
  rintro e w1 ⟨s, t, K, V, aA, nA, dA, aB, nB, dB, hs9, ht9, rfl, hnA, hnB, cA, cB, hb⟩
  clear h
  obtain ⟨A, hA⟩ : ∃ A, marksL s.data.toList K V = A := ⟨_, rfl⟩
  obtain ⟨B, hB⟩ : ∃ B, marksL t.data.toList K V = B := ⟨_, rfl⟩
  have hAl : A.length ≤ 24 := by
    have h := marksL_roomT s.data.toList K V
    rw [hA] at h
    have e1 : s.data.toList.length = s.size := rfl
    omega
  have hBl : B.length ≤ 36 := by
    have h := marksL_roomT t.data.toList K V
    rw [hB] at h
    have e1 : t.data.toList.length = t.size := rfl
    omega
  have hTu := twins_up A B (by rw [← hA]; exact marks_up _ _ _) (by rw [← hB]; exact marks_up _ _ _)
  rw [hA] at hnA cA
  rw [hB] at hnB cB
  obtain ⟨T, hT⟩ : ∃ T, twinsL A B = T := ⟨_, rfl⟩
  obtain ⟨U, hU⟩ : ∃ U, twinsL B A = U := ⟨_, rfl⟩
  rw [hT] at hTu
  have hTl : T.length ≤ 1000 := by
    have h := twinsL_len A B 36 hBl
    rw [hT] at h
    have h2 : A.length * 36 ≤ 24 * 36 := Nat.mul_le_mul_right _ hAl
    omega
  have hUl : U.length = T.length := by rw [← hU, ← hT]; exact twins_len_turned A B
  have HTU := Lib.hid (show ∀ i (h : i < T.length), ∃ j, ∃ h2 : j < U.length, U[j] = (T[i].2, T[i].1) from fun i h => by
    have h1 := twins_turned A B T[i] (by rw [hT]; exact List.getElem_mem h)
    rw [hU] at h1
    obtain ⟨j, hj, he⟩ := List.getElem_of_mem h1
    exact ⟨j, hj, he⟩)
  have HTu := Lib.hid hTu
  have c1 := fun w (h1 : CellsAt w aA (pairsC A)) (h2 : CellsAt w aB (pairsC B)) => implTwins_any A B aA nA dA aB nB dB w hnA hnB (by omega) (by omega) h1 h2
  have c2 := fun w (h1 : CellsAt w aA (pairsC A)) (h2 : CellsAt w aB (pairsC B)) => implTwins_any B A aB nB dB aA nA dA w hnB hnA (by omega) (by omega) h2 h1
  have c3 := fun w (h1 : CellsAt w aA (pairsC A)) (h2 : CellsAt w aB (pairsC B)) => specTwins_any A B aA nA dA aB nB dB w hnA hnB (by omega) (by omega) h1 h2
  rw [hT] at c1 c3
  rw [hU] at c2
  have HTl := Lib.hid hTl
  have HUl := Lib.hid hUl
  have hnA9 : nA ≤ 24 := by omega
  have hnB9 : nB ≤ 36 := by omega
  clear hA hB hT hU hTu hAl hBl hTl hUl hnA hnB
  go_wp2_with fail
  refine (c1 _ cA cB).mono ?_
  rintro e w2 ⟨a2, n2, d2, rfl, o2⟩
  have HN2 := Lib.hid (pairs_len o2.own)
  have hb2 := hb.trans (o2.below.mono hb.size)
  have cA2 := cA.below o2.below
  have cB2 := cB.below o2.below
  clear hb cA cB c1
  go_wp2_with fail
  refine (c2 _ cA2 cB2).mono ?_
  rintro e w3 ⟨a3, n3, d3, rfl, o3⟩
  have HN3 := Lib.hid (pairs_len o3.own)
  have hb3 := hb2.trans (o3.below.mono hb2.size)
  have cA3 := cA2.below o3.below
  have cB3 := cB2.below o3.below
  have T3 := o2.at_.below o3.below
  clear hb2 cA2 cB2 c2 o2
  go_wp2_with fail
  refine (c3 _ cA3 cB3).mono ?_
  rintro e w4 ⟨a4, n4, d4, rfl, o4⟩
  have HN4 := Lib.hid (pairs_len o4.own)
  have R : RdM w w4 a2 T := ⟨hb3.trans (o4.below.mono hb3.size), T3.below o4.below⟩
  have RU := o3.at_.below o4.below
  have RW := o4.at_
  have hn29 : n2 ≤ 1000 := by have := HN2.out; have := HTl.out; omega
  have e34 : n3 = n2 := by have := HN2.out; have := HN3.out; have := HUl.out; omega
  have e42 : n4 = n2 := by have := HN2.out; have := HN4.out; omega
  clear hb3 cA3 cB3 c3 T3 o3 o4
  subst e34
  subst e42
  have tn : ((n4 : Int) == (n4 : Int)) = true := beq_self_eq_true _
  have tn2 : ((n4 : Int) != (n4 : Int)) = false := by rw [bne, tn]; rfl
  go_wp2
  go_loopw [8] (fun i_ wr => ∃ i : Nat, i ≤ n4 ∧ i_ = .int .i64 i ∧ RdM w wr a2 T ∧ CellsAt wr a3 (pairsC U) ∧ CellsAt wr a4 (pairsC T)) (fun i_ _ => n4 - (intOf i_).toNat)
  case atStart => exact ⟨0, Nat.zero_le _, rfl, R, RU, RW⟩
  case round =>
    clear R RU RW
    obtain ⟨i, hi, rfl, R, RU, RW⟩ := hrel
    by_cases hli : i < n4
    · have hiT : i < T.length := by have := HN2.out; omega
      obtain ⟨j0, hj0, hu0⟩ := HTU.out i hiT
      obtain ⟨x, hx⟩ : ∃ x, T[i].1 = x := ⟨_, rfl⟩
      obtain ⟨y, hy⟩ : ∃ y, T[i].2 = y := ⟨_, rfl⟩
      have hti : T[i] = (x, y) := by rw [← hx, ← hy]
      rw [hx, hy] at hu0
      obtain ⟨g2, o2, rfl, k1, k2⟩ := pair_cells R.at_ hiT hti
      obtain ⟨g4, o4, rfl, k3, k4⟩ := pair_cells RW hiT hti
      have HTI := Lib.hid hti
      have HU0 := Lib.hid hu0
      have hj0n : j0 < n4 := by have := HN3.out; omega
      have y1 : (i : Int) < (n4 : Int) := by omega
      have y2 : (0 : Int) ≤ (i : Int) := by omega
      have tx : (x == x) = true := beq_self_eq_true _
      have ty : (y == y) = true := beq_self_eq_true _
      clear hx hy hu0
      have tb : decide ((0 : Int) < (i : Int)) = decide (0 < i) := by simp
      have HX : ∃ b0 : Bool, decide (0 < i) = b0 := ⟨_, rfl⟩
      by_cases h0 : i = 0
      · have t0 : decide ((0 : Int) < (i : Int)) = false := decide_eq_false (by omega)
        have t0' : decide (0 < i) = false := decide_eq_false (by omega)
        have HI0 := Lib.hid h0
        clear hti h0 tb HX
        go_wp2
        go_quiet (fail)
        go_wp2
        go_loopw [9, 10] (fun b_ j_ wr => ∃ (j : Nat) (b : Bool), j ≤ n4 ∧ j_ = .int .i64 j ∧ b_ = .bool b ∧ Hid (j0 < j → b = true) ∧ RdM w wr (some ⟨g2, o2, none⟩) T ∧ CellsAt wr a3 (pairsC U) ∧ CellsAt wr (some ⟨g4, o4, none⟩) (pairsC T)) (fun _ j_ _ => n4 - (intOf j_).toNat)
        case atStart => exact ⟨0, false, Nat.zero_le _, rfl, rfl, Lib.hid (fun h => absurd h (Nat.not_lt_zero _)), R.drewN _, RU.drewN _, RW.drewN _⟩
        case round =>
          clear R RU RW k1 k2 k3 k4
          obtain ⟨j, b, hj, rfl, rfl, HB, R, RU, RW⟩ := hrel
          by_cases hlj : j < n4
          · have hjU : j < U.length := by have := HN3.out; omega
            obtain ⟨u, hu⟩ : ∃ u, U[j].1 = u := ⟨_, rfl⟩
            obtain ⟨v, hv⟩ : ∃ v, U[j].2 = v := ⟨_, rfl⟩
            have huj : U[j] = (u, v) := by rw [← hu, ← hv]
            have HQ := Lib.hid (show j = j0 → u = y ∧ v = x from fun e => by
              subst e
              have h1 := HU0.out
              rw [huj] at h1
              exact ⟨by injection h1, by injection h1⟩)
            obtain ⟨gb, go, hge, g1, g2'⟩ := pair_cells R.at_ hiT HTI.out
            obtain ⟨rfl, rfl⟩ := (by simpa using hge : g2 = gb ∧ o2 = go)
            obtain ⟨gu, gou, rfl, g3, g4'⟩ := pair_cells RU hjU huj
            have y3 : (j : Int) < (n4 : Int) := by omega
            have y4 : (0 : Int) ≤ (j : Int) := by omega
            clear hu hv huj hge
            cases b with
            | true =>
              go_wp2
              go_quiet (fail)
              go_wp2
              go_roundw
              case rel => exact ⟨j + 1, true, by omega, by go_num, rfl, Lib.hid (fun _ => rfl), R.drewN _, RU.drewN _, RW.drewN _⟩
              case measure => simp [intOf]; omega
            | false =>
              have hnj : ¬ j0 < j := fun h => by have := HB.out h; cases this
              have HN := Lib.hid (show (¬ (u = y ∧ v = x)) → j0 < j + 1 → false = true from fun h1 h2 => absurd (HQ.out (by omega)) h1)
              clear hnj HB HQ
              by_cases h1 : u = y
              · have t1 : (u == y) = true := by rw [h1]; exact beq_self_eq_true _
                by_cases h2 : v = x
                · have t2 : (v == x) = true := by rw [h2]; exact beq_self_eq_true _
                  clear h1 h2 HN
                  go_wp2
                  go_quiet (fail)
                  go_wp2
                  go_roundw
                  case rel => exact ⟨j + 1, true, by omega, by go_num, rfl, Lib.hid (fun _ => rfl), R.drewN _, RU.drewN _, RW.drewN _⟩
                  case measure => simp [intOf]; omega
                · have t2 : (v == x) = false := by simpa using h2
                  have HN2 := Lib.hid (HN.out (fun h => h2 h.2))
                  clear h1 h2 HN
                  go_wp2
                  go_quiet (fail)
                  go_wp2
                  go_roundw
                  case rel => exact ⟨j + 1, false, by omega, by go_num, rfl, HN2, R.drewN _, RU.drewN _, RW.drewN _⟩
                  case measure => simp [intOf]; omega
              · have t1 : (u == y) = false := by simpa using h1
                have HN2 := Lib.hid (HN.out (fun h => h1 h.1))
                clear h1 HN
                go_wp2
                go_quiet (fail)
                go_wp2
                go_roundw
                case rel => exact ⟨j + 1, false, by omega, by go_num, rfl, HN2, R.drewN _, RU.drewN _, RW.drewN _⟩
                case measure => simp [intOf]; omega
          · obtain rfl : b = true := HB.out (by omega)
            clear HB
            go_wp2
            go_roundw
            case rel => exact ⟨i + 1, by omega, by go_num, R, RU, RW⟩
            case measure => simp [intOf]; omega
      · obtain ⟨p, hpi⟩ : ∃ p, i = p + 1 := ⟨i - 1, by omega⟩
        have hpT : p < T.length := by omega
        obtain ⟨x', hx'⟩ : ∃ x', T[p].1 = x' := ⟨_, rfl⟩
        obtain ⟨y', hy'⟩ : ∃ y', T[p].2 = y' := ⟨_, rfl⟩
        have htp : T[p] = (x', y') := by rw [← hx', ← hy']
        have hlex : x' < x ∨ x' = x ∧ y' < y := by
          have h := twins_at HTu.out p (by omega)
          have h2 : T[p + 1]'(by omega) = (x, y) := by subst hpi; exact hti
          rw [htp, h2] at h
          exact h
        obtain ⟨gb, go, hge, k5, k6⟩ := pair_cells R.at_ hpT htp
        obtain ⟨rfl, rfl⟩ := (by simpa using hge : g2 = gb ∧ o2 = go)
        have e1 : IntKind.i64.wrap ((i : Int) - 1) = (p : Int) := by rw [IntWalk.i64_in _ (by omega)]; omega
        have e2 : (i : Int) - 1 = (p : Int) := by omega
        have y5 : (0 : Int) ≤ (p : Int) := by omega
        have y6 : (p : Int) < (n4 : Int) := by omega
        have y7 : (0 : Int) < (i : Int) := by omega
        have t0 : decide ((0 : Int) < (i : Int)) = true := decide_eq_true (by omega)
        have t0' : decide (0 < i) = true := decide_eq_true (by omega)
        have HPI := Lib.hid hpi
        have t5 : decide (x < x') = false := decide_eq_false (by omega)
        clear hx' hy' htp hti hge tb HX h0 hpi
        by_cases hxe : x' = x
        · have t6 : (x' == x) = true := by rw [hxe]; exact beq_self_eq_true _
          have t7 : decide (y ≤ y') = false := decide_eq_false (by omega)
          clear hlex hxe
          go_wp2
          go_quiet (fail)
          go_wp2
          go_loopw [9, 10] (fun b_ j_ wr => ∃ (j : Nat) (b : Bool), j ≤ n4 ∧ j_ = .int .i64 j ∧ b_ = .bool b ∧ Hid (j0 < j → b = true) ∧ RdM w wr (some ⟨g2, o2, none⟩) T ∧ CellsAt wr a3 (pairsC U) ∧ CellsAt wr (some ⟨g4, o4, none⟩) (pairsC T)) (fun _ j_ _ => n4 - (intOf j_).toNat)
          case atStart => exact ⟨0, false, Nat.zero_le _, rfl, rfl, Lib.hid (fun h => absurd h (Nat.not_lt_zero _)), R.drewN _, RU.drewN _, RW.drewN _⟩
          case round =>
            clear R RU RW k1 k2 k3 k4
            obtain ⟨j, b, hj, rfl, rfl, HB, R, RU, RW⟩ := hrel
            by_cases hlj : j < n4
            · have hjU : j < U.length := by have := HN3.out; omega
              obtain ⟨u, hu⟩ : ∃ u, U[j].1 = u := ⟨_, rfl⟩
              obtain ⟨v, hv⟩ : ∃ v, U[j].2 = v := ⟨_, rfl⟩
              have huj : U[j] = (u, v) := by rw [← hu, ← hv]
              have HQ := Lib.hid (show j = j0 → u = y ∧ v = x from fun e => by
                subst e
                have h1 := HU0.out
                rw [huj] at h1
                exact ⟨by injection h1, by injection h1⟩)
              obtain ⟨gb, go, hge, g1, g2'⟩ := pair_cells R.at_ hiT HTI.out
              obtain ⟨rfl, rfl⟩ := (by simpa using hge : g2 = gb ∧ o2 = go)
              obtain ⟨gu, gou, rfl, g3, g4'⟩ := pair_cells RU hjU huj
              have y3 : (j : Int) < (n4 : Int) := by omega
              have y4 : (0 : Int) ≤ (j : Int) := by omega
              clear hu hv huj hge
              cases b with
              | true =>
                go_wp2
                go_quiet (fail)
                go_wp2
                go_roundw
                case rel => exact ⟨j + 1, true, by omega, by go_num, rfl, Lib.hid (fun _ => rfl), R.drewN _, RU.drewN _, RW.drewN _⟩
                case measure => simp [intOf]; omega
              | false =>
                have hnj : ¬ j0 < j := fun h => by have := HB.out h; cases this
                have HN := Lib.hid (show (¬ (u = y ∧ v = x)) → j0 < j + 1 → false = true from fun h1 h2 => absurd (HQ.out (by omega)) h1)
                clear hnj HB HQ
                by_cases h1 : u = y
                · have t1 : (u == y) = true := by rw [h1]; exact beq_self_eq_true _
                  by_cases h2 : v = x
                  · have t2 : (v == x) = true := by rw [h2]; exact beq_self_eq_true _
                    clear h1 h2 HN
                    go_wp2
                    go_quiet (fail)
                    go_wp2
                    go_roundw
                    case rel => exact ⟨j + 1, true, by omega, by go_num, rfl, Lib.hid (fun _ => rfl), R.drewN _, RU.drewN _, RW.drewN _⟩
                    case measure => simp [intOf]; omega
                  · have t2 : (v == x) = false := by simpa using h2
                    have HN2 := Lib.hid (HN.out (fun h => h2 h.2))
                    clear h1 h2 HN
                    go_wp2
                    go_quiet (fail)
                    go_wp2
                    go_roundw
                    case rel => exact ⟨j + 1, false, by omega, by go_num, rfl, HN2, R.drewN _, RU.drewN _, RW.drewN _⟩
                    case measure => simp [intOf]; omega
                · have t1 : (u == y) = false := by simpa using h1
                  have HN2 := Lib.hid (HN.out (fun h => h1 h.1))
                  clear h1 HN
                  go_wp2
                  go_quiet (fail)
                  go_wp2
                  go_roundw
                  case rel => exact ⟨j + 1, false, by omega, by go_num, rfl, HN2, R.drewN _, RU.drewN _, RW.drewN _⟩
                  case measure => simp [intOf]; omega
            · obtain rfl : b = true := HB.out (by omega)
              clear HB
              go_wp2
              go_roundw
              case rel => exact ⟨i + 1, by omega, by go_num, R, RU, RW⟩
              case measure => simp [intOf]; omega
        · have t6 : (x' == x) = false := by simpa using hxe
          clear hlex hxe
          go_wp2
          go_quiet (fail)
          go_wp2
          go_loopw [9, 10] (fun b_ j_ wr => ∃ (j : Nat) (b : Bool), j ≤ n4 ∧ j_ = .int .i64 j ∧ b_ = .bool b ∧ Hid (j0 < j → b = true) ∧ RdM w wr (some ⟨g2, o2, none⟩) T ∧ CellsAt wr a3 (pairsC U) ∧ CellsAt wr (some ⟨g4, o4, none⟩) (pairsC T)) (fun _ j_ _ => n4 - (intOf j_).toNat)
          case atStart => exact ⟨0, false, Nat.zero_le _, rfl, rfl, Lib.hid (fun h => absurd h (Nat.not_lt_zero _)), R.drewN _, RU.drewN _, RW.drewN _⟩
          case round =>
            clear R RU RW k1 k2 k3 k4
            obtain ⟨j, b, hj, rfl, rfl, HB, R, RU, RW⟩ := hrel
            by_cases hlj : j < n4
            · have hjU : j < U.length := by have := HN3.out; omega
              obtain ⟨u, hu⟩ : ∃ u, U[j].1 = u := ⟨_, rfl⟩
              obtain ⟨v, hv⟩ : ∃ v, U[j].2 = v := ⟨_, rfl⟩
              have huj : U[j] = (u, v) := by rw [← hu, ← hv]
              have HQ := Lib.hid (show j = j0 → u = y ∧ v = x from fun e => by
                subst e
                have h1 := HU0.out
                rw [huj] at h1
                exact ⟨by injection h1, by injection h1⟩)
              obtain ⟨gb, go, hge, g1, g2'⟩ := pair_cells R.at_ hiT HTI.out
              obtain ⟨rfl, rfl⟩ := (by simpa using hge : g2 = gb ∧ o2 = go)
              obtain ⟨gu, gou, rfl, g3, g4'⟩ := pair_cells RU hjU huj
              have y3 : (j : Int) < (n4 : Int) := by omega
              have y4 : (0 : Int) ≤ (j : Int) := by omega
              clear hu hv huj hge
              cases b with
              | true =>
                go_wp2
                go_quiet (fail)
                go_wp2
                go_roundw
                case rel => exact ⟨j + 1, true, by omega, by go_num, rfl, Lib.hid (fun _ => rfl), R.drewN _, RU.drewN _, RW.drewN _⟩
                case measure => simp [intOf]; omega
              | false =>
                have hnj : ¬ j0 < j := fun h => by have := HB.out h; cases this
                have HN := Lib.hid (show (¬ (u = y ∧ v = x)) → j0 < j + 1 → false = true from fun h1 h2 => absurd (HQ.out (by omega)) h1)
                clear hnj HB HQ
                by_cases h1 : u = y
                · have t1 : (u == y) = true := by rw [h1]; exact beq_self_eq_true _
                  by_cases h2 : v = x
                  · have t2 : (v == x) = true := by rw [h2]; exact beq_self_eq_true _
                    clear h1 h2 HN
                    go_wp2
                    go_quiet (fail)
                    go_wp2
                    go_roundw
                    case rel => exact ⟨j + 1, true, by omega, by go_num, rfl, Lib.hid (fun _ => rfl), R.drewN _, RU.drewN _, RW.drewN _⟩
                    case measure => simp [intOf]; omega
                  · have t2 : (v == x) = false := by simpa using h2
                    have HN2 := Lib.hid (HN.out (fun h => h2 h.2))
                    clear h1 h2 HN
                    go_wp2
                    go_quiet (fail)
                    go_wp2
                    go_roundw
                    case rel => exact ⟨j + 1, false, by omega, by go_num, rfl, HN2, R.drewN _, RU.drewN _, RW.drewN _⟩
                    case measure => simp [intOf]; omega
                · have t1 : (u == y) = false := by simpa using h1
                  have HN2 := Lib.hid (HN.out (fun h => h1 h.1))
                  clear h1 HN
                  go_wp2
                  go_quiet (fail)
                  go_wp2
                  go_roundw
                  case rel => exact ⟨j + 1, false, by omega, by go_num, rfl, HN2, R.drewN _, RU.drewN _, RW.drewN _⟩
                  case measure => simp [intOf]; omega
            · obtain rfl : b = true := HB.out (by omega)
              clear HB
              go_wp2
              go_roundw
              case rel => exact ⟨i + 1, by omega, by go_num, R, RU, RW⟩
              case measure => simp [intOf]; omega
    · go_wp2_with fail
      refine (alive_any _).mono ?_
      rintro e w8 ⟨rfl, rfl⟩
      go_wp2
      go_ret
      exact ⟨rfl, R.below⟩

end Go.Proofs.Ytjebgoekcaogbaa
