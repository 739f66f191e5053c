/-
  The contract of the program's function timesAsked. Condition: rows have at most 2^21 elements.
-/
import Derived.Test.YtclblnkeakkdeaaShelfG
import Derived.Test.YtclblnkeakkdeaaShelfM
namespace Go.Proofs.Ytclblnkeakkdeaa
open Go.RowKit

theorem t1_bounds (P : List Int) (M : List (Int × Int)) (i : Nat) : 0 ≤ t1 P M i ∧ t1 P M i ≤ M.length := by
  unfold t1
  split
  · have := cM_len M (P.getD i 0); omega
  · omega

set_option maxRecDepth 4000 in
set_option maxHeartbeats 8000000 in
theorem implTimes_any (l : List En) (M : List (Int × Int)) (a : Option Addr) (n c : Nat) (b : Option Addr) (m f : Nat) (w : World) (hn : n = l.length) (hm : m = M.length) (hl : n ≤ 2097152) (hm9 : m ≤ 2097152) (hu : UpI (prL l)) (hat : CellsAt w a (entsC l)) (hbt : CellsAt w b (pairsC M)) :
    Calls Try.prog 76 #[.slice a n c, .slice b m f] w fun e w' => ∃ g, e = .returned (.slice (some ⟨g, 0, none⟩) n n) ∧ One w w.heap.size w' 3 1 (some ⟨g, 0, none⟩) n n (intCells (vecI n (fun i => (cM M ((prL l).getD i 0) : Int)))) := by
  obtain ⟨P, hP⟩ : ∃ P, prL l = P := ⟨_, rfl⟩
  have c1 := fun p w h => implFirst_any l p a n c w hn (by omega) hu h
  have hPl : P.length = n := by rw [← hP, prL_len, hn]
  have HPG := Lib.hid (show ∀ i (h : i < l.length), P.getD i 0 = l[i].1 from fun i h => by rw [getD_at P i (by omega)]; subst hP; exact prL_get l i h)
  rw [hP] at hu c1 ⊢
  have HU := Lib.hid hu
  have HPL := Lib.hid hPl
  have HN := Lib.hid hn
  have HM := Lib.hid hm
  have HAT := Lib.hid hat
  have HBT := Lib.hid hbt
  obtain ⟨w1, hmk, hone⟩ := make_zeros w n (by omega)
  obtain ⟨g, hg⟩ : ∃ g, w.heap.size = g := ⟨_, rfl⟩
  have HG := Lib.hid hg
  rw [hg] at hmk
  have hone1 : One w w.heap.size w1 3 1 (some ⟨g, 0, none⟩) n n (intCells (vecI n (t1 P (M.take 0)))) := by
    rw [hg] at hone ⊢
    rw [List.take_zero, vecI_same (f := t1 P []) (g := fun _ => 0) (fun i _ => t1_zero P i)]
    exact hone
  clear hn hm hat hbt hu hPl hP hg hone
  go_enter Try.func76, Try.ntmps76
  go_wp2
  clear hmk
  go_loopw [14] (fun j_ wr => ∃ j : Nat, j ≤ m ∧ j_ = .int .i64 j ∧ One w w.heap.size wr 3 1 (some ⟨g, 0, none⟩) n n (intCells (vecI n (t1 P (M.take j))))) (fun j_ _ => m - (intOf j_).toNat)
  case atStart => exact ⟨0, Nat.zero_le _, rfl, hone1⟩
  case round =>
    clear hone1
    obtain ⟨j, hj, rfl, hone⟩ := hrel
    by_cases hlj : j < m
    · have hjM : j < M.length := by have := HM.out; omega
      obtain ⟨p, hp⟩ : ∃ p, M[j].1 = p := ⟨_, rfl⟩
      obtain ⟨y, hy⟩ : ∃ y, M[j].2 = y := ⟨_, rfl⟩
      have hmj : M[j] = (p, y) := by rw [← hp, ← hy]
      obtain ⟨mb, mo, rfl, hmb, g1, g2⟩ := pair_at5 (HBT.out.below hone.below) hjM hmj
      have d1 := c1 p wr (HAT.out.below hone.below)
      have hle := posI_le P p
      have hHit := t1_hit (P := P) hjM hp
      have hMiss := t1_miss HU.out hjM hp
      obtain ⟨q, hq⟩ : ∃ q, posI P p = q := ⟨_, rfl⟩
      rw [hq] at d1 hle
      have z3 : (j : Int) < (m : Int) := by omega
      have z4 : (0 : Int) ≤ (j : Int) := by omega
      have hqn : q ≤ n := by have := HPL.out; omega
      by_cases hit : ∃ h : q < P.length, P[q] = p
      · obtain ⟨hqP, he⟩ := hit
        have hql : q < l.length := by have := HPL.out; have := HN.out; omega
        obtain ⟨h1, h2⟩ := hHit (by rw [hq]; exact hqP) (by simp only [hq]; exact he)
        rw [hq] at h1
        simp only [hq] at h2
        obtain ⟨v, hv⟩ : ∃ v, t1 P (M.take j) q = v := ⟨_, rfl⟩
        rw [hv] at h1
        have hb := t1_bounds P (M.take j) q
        rw [hv, List.length_take] at hb
        have hv0 : 0 ≤ v := hb.1
        have hv9 : v ≤ 2097152 := by have := hb.2; omega
        have hqn2 : q < n := by have := HPL.out; omega
        have kc := vec_cell hone hqn2 hv
        have hfz := hone.frozen q
        have HST := Lib.hid (show ∀ s, One w w.heap.size ((wr.setCell ⟨g, q, none⟩ (.int .i64 (v + 1))).drewN s) 3 1 (some ⟨g, 0, none⟩) n n (intCells (vecI n (t1 P (M.take (j + 1))))) from fun s =>
          (vec_stored hone h1 (fun i hi hne => h2 i (by have := HPL.out; omega) hne)).drewN s)
        obtain ⟨x, hx⟩ : ∃ x, l[q].1 = x := ⟨_, rfl⟩
        obtain ⟨y', hy'⟩ : ∃ y, l[q].2.1 = y := ⟨_, rfl⟩
        obtain ⟨z', hz'⟩ : ∃ z, l[q].2.2 = z := ⟨_, rfl⟩
        have hml : l[q] = (x, y', z') := by rw [← hx, ← hy', ← hz']
        obtain ⟨ab, ao, rfl, hab, k1, k2, k3⟩ := ent_cells (HAT.out.below hone.below) hql hml
        have hxp : x = p := by rw [← hx, ← HPG.out q hql, getD_at P q hqP, he]
        have tx : (x == p) = true := by rw [hxp]; exact beq_self_eq_true _
        have tq : decide (q < n) = true := decide_eq_true hqn2
        have tq' : decide ((q : Int) < (n : Int)) = true := decide_eq_true (by omega)
        have z5 : (q : Int) < (n : Int) := by omega
        have z6 : (0 : Int) ≤ (q : Int) := by omega
        clear hp hy hmj hHit hMiss hq hle hqP he h1 h2 hv hb hone hx hy' hz' hml hxp hql hjM
        go_wp2_with fail
        refine d1.mono ?_
        rintro e w5 ⟨rfl, rfl⟩
        clear d1
        go_wp2
        go_quiet (fail)
        go_wp2
        go_roundw
        case rel => exact ⟨j + 1, by omega, by go_num, HST.out _⟩
        case measure => simp [intOf]; omega
      · have HE := Lib.hid (show vecI n (t1 P (M.take (j + 1))) = vecI n (t1 P (M.take j)) from vecI_same (fun i hi => hMiss (fun ha h => hit (by rw [hq] at ha; simp only [hq] at h; exact ⟨ha, h⟩)) i (by have := HPL.out; omega)))
        by_cases hqn2 : q < n
        · have hql : q < l.length := by have := HN.out; omega
          obtain ⟨x, hx⟩ : ∃ x, l[q].1 = x := ⟨_, rfl⟩
          obtain ⟨y', hy'⟩ : ∃ y, l[q].2.1 = y := ⟨_, rfl⟩
          obtain ⟨z', hz'⟩ : ∃ z, l[q].2.2 = z := ⟨_, rfl⟩
          have hml : l[q] = (x, y', z') := by rw [← hx, ← hy', ← hz']
          obtain ⟨ab, ao, rfl, hab, k1, k2, k3⟩ := ent_cells (HAT.out.below hone.below) hql hml
          have hxp : ¬ x = p := fun e => hit ⟨by have := HPL.out; omega, by rw [← getD_at P q (by have := HPL.out; omega), HPG.out q hql, hx, e]⟩
          have tx : (x == p) = false := by simpa using hxp
          have tq : decide (q < n) = true := decide_eq_true hqn2
          have tq' : decide ((q : Int) < (n : Int)) = true := decide_eq_true (by omega)
          have z5 : (q : Int) < (n : Int) := by omega
          have z6 : (0 : Int) ≤ (q : Int) := by omega
          clear hp hy hmj hHit hMiss hq hle hit hx hy' hz' hml hxp hql hjM
          go_wp2_with fail
          refine d1.mono ?_
          rintro e w5 ⟨rfl, rfl⟩
          clear d1
          go_wp2
          go_quiet (fail)
          go_wp2
          go_roundw
          case rel => exact ⟨j + 1, by omega, by go_num, by rw [HE.out]; exact hone.drewN _⟩
          case measure => simp [intOf]; omega
        · have tq : decide (q < n) = false := decide_eq_false hqn2
          have tq' : decide ((q : Int) < (n : Int)) = false := decide_eq_false (by omega)
          clear hp hy hmj hHit hMiss hq hle hit hjM
          go_wp2_with fail
          refine d1.mono ?_
          rintro e w5 ⟨rfl, rfl⟩
          clear d1
          go_wp2
          go_quiet (fail)
          go_wp2
          go_roundw
          case rel => exact ⟨j + 1, by omega, by go_num, by rw [HE.out]; exact hone.drewN _⟩
          case measure => simp [intOf]; omega
    · have hO : One w w.heap.size wr 3 1 (some ⟨g, 0, none⟩) n n (intCells (vecI n (t2 P M 1))) := by
        have h := hone
        rw [List.take_of_length_le (by have := HM.out; omega)] at h
        rwa [vecI_same (f := t2 P M 1) (g := t1 P M) (fun i hi => t2_one M i (by have := HPL.out; omega))]
      clear hone c1
      go_wp2
      go_loopw [8] (fun i_ wr => ∃ i : Nat, 1 ≤ i ∧ (i ≤ n ∨ i = 1) ∧ i_ = .int .i64 i ∧ One w w.heap.size wr 3 1 (some ⟨g, 0, none⟩) n n (intCells (vecI n (t2 P M i)))) (fun i_ _ => n - (intOf i_).toNat)
      case atStart => exact ⟨1, Nat.le_refl _, .inr rfl, rfl, hO⟩
      case round =>
        clear hO
        obtain ⟨i, hi1, hi2, rfl, hone⟩ := hrel
        by_cases hlt : i < n
        · obtain ⟨k, rfl⟩ : ∃ k, i = k + 1 := ⟨i - 1, by omega⟩
          have hkl : k + 1 < l.length := by have := HN.out; omega
          have hkP : k + 1 < P.length := by have := HPL.out; omega
          obtain ⟨x, hx⟩ : ∃ x, (l[k + 1]'hkl).1 = x := ⟨_, rfl⟩
          obtain ⟨y, hy⟩ : ∃ x, (l[k + 1]'hkl).2.1 = x := ⟨_, rfl⟩
          obtain ⟨z, hz⟩ : ∃ x, (l[k + 1]'hkl).2.2 = x := ⟨_, rfl⟩
          have hml : l[k + 1]'hkl = (x, y, z) := by rw [← hx, ← hy, ← hz]
          obtain ⟨x', hx'⟩ : ∃ x, (l[k]'(by omega)).1 = x := ⟨_, rfl⟩
          obtain ⟨y', hy'⟩ : ∃ x, (l[k]'(by omega)).2.1 = x := ⟨_, rfl⟩
          obtain ⟨z', hz'⟩ : ∃ x, (l[k]'(by omega)).2.2 = x := ⟨_, rfl⟩
          have hml' : l[k]'(by omega) = (x', y', z') := by rw [← hx', ← hy', ← hz']
          obtain ⟨ab, ao, rfl, hab, k1, k2, k3⟩ := ent_cells (HAT.out.below hone.below) hkl hml
          obtain ⟨ab', ao', hbo, _, k4, k5, k6⟩ := ent_cells (HAT.out.below hone.below) (show k < l.length by omega) hml'
          obtain ⟨rfl, rfl⟩ := (by simpa using hbo : ab = ab' ∧ ao = ao')
          have p1 : P[k + 1] = x := by rw [← getD_at P (k + 1) hkP, HPG.out (k + 1) hkl, hx]
          have p2 : P[k]'(by omega) = x' := by rw [← getD_at P k (by omega), HPG.out k (by omega), hx']
          have e1 : IntKind.i64.wrap ((k : Int) + 1 - 1) = (k : Int) := by rw [IntWalk.i64_in _ (by omega)]; omega
          have e2 : IntKind.i64.wrap (k : Int) = (k : Int) := IntWalk.i64_in _ (by omega)
          have e3 : IntKind.i64.wrap (((k + 1 : Nat) : Int) - 1) = (k : Int) := by rw [IntWalk.i64_in _ (by omega)]; omega
          have y5 : (0 : Int) ≤ (k : Int) := by omega
          have y6 : (k : Int) < (n : Int) := by omega
          have y8 : (k : Int) + 1 < (n : Int) := by omega
          have y9 : (0 : Int) ≤ (k : Int) + 1 := by omega
          have y10 : ((k : Int) + 1).toNat = k + 1 := by omega
          by_cases hxx : x = x'
          · have tx : (x == x') = true := by rw [hxx]; exact beq_self_eq_true _
            obtain ⟨h1, h2⟩ := t2_same (M := M) hkP (by rw [p1, p2, hxx])
            obtain ⟨v, hv⟩ : ∃ v, t2 P M (k + 1) k = v := ⟨_, rfl⟩
            obtain ⟨v', hv'⟩ : ∃ v, t2 P M (k + 1) (k + 1) = v := ⟨_, rfl⟩
            rw [hv] at h1
            have kc := vec_cell hone (show k < n by omega) hv
            have kc' := vec_cell hone hlt hv'
            have hfz := hone.frozen (k + 1)
            have HST := Lib.hid (show ∀ s, One w w.heap.size ((wr.setCell ⟨g, k + 1, none⟩ (.int .i64 v)).drewN s) 3 1 (some ⟨g, 0, none⟩) n n (intCells (vecI n (t2 P M (k + 1 + 1)))) from fun s =>
              (vec_stored hone h1 (fun i hi hne => h2 i (by have := HPL.out; omega) hne)).drewN s)
            clear hx hy hz hml hx' hy' hz' hml' hbo p1 p2 hxx h1 h2 hv hv' hone hkl hkP
            go_wp2
            go_quiet (fail)
            go_wp2
            go_roundw
            case rel => exact ⟨k + 1 + 1, by omega, by omega, by go_num, HST.out _⟩
            case measure => simp [intOf]; omega
          · have tx : (x == x') = false := by simpa using hxx
            have HE := Lib.hid (show vecI n (t2 P M (k + 1 + 1)) = vecI n (t2 P M (k + 1)) from vecI_same (fun i hi => t2_new HU.out hkP (by rw [p1, p2]; exact hxx) i (by have := HPL.out; omega)))
            clear hx hy hz hml hx' hy' hz' hml' hbo p1 p2 hxx hkl hkP
            go_wp2
            go_quiet (fail)
            go_wp2
            go_roundw
            case rel => exact ⟨k + 1 + 1, by omega, by omega, by go_num, by rw [HE.out]; exact hone.drewN _⟩
            case measure => simp [intOf]; omega
        · have HO := Lib.hid (show One w w.heap.size wr 3 1 (some ⟨g, 0, none⟩) n n (intCells (vecI n (fun i => (cM M (P.getD i 0) : Int)))) by
            have h := hone
            rwa [vecI_same (f := t2 P M i) (g := fun i => (cM M (P.getD i 0) : Int)) (fun j hj => by unfold t2; rw [if_pos (by omega)])] at h)
          clear hone
          go_wp2
          go_ret
          exact ⟨_, rfl, HO.out⟩

end Go.Proofs.Ytclblnkeakkdeaa
