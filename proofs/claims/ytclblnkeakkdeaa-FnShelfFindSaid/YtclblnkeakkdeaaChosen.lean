/-
  The contracts of the model's functions l4Least, ChosenOf and SureLength. Condition: rows have at most 2^22 numbers.
-/
import Derived.Test.YtclblnkeakkdeaaMathChosen
import Derived.Test.YtclblnkeakkdeaaPrintK
import Derived.Deep.QuietTactic
import Derived.BigQuiet
import Derived.IntWalk
namespace Go.Proofs.Ytclblnkeakkdeaa
open Go.RowKit

/-- Cells of places. -/
def natC (l : List Nat) : List Value := intCells (l.map fun (n : Nat) => (n : Int))
theorem natC_new {L : List Int} {w k : Nat} (h : ¬ (chN L w k).getLast? = some (leastTo L k w)) : natC (chN L w (k + 1)) = natC (chN L w k) ++ [.int .i64 (leastTo L k w)] := by
  rw [chN_new h, natC, List.map_append, intCells_append]; rfl

set_option maxHeartbeats 1000000 in
theorem specLeast_any (L : List Int) (a : Option Addr) (n c f v : Nat) (w : World) (hn : n = L.length) (hl : n ≤ 1099511627776) (hv : 0 < v) (hf : f + v ≤ n) (hat : CellsAt w a (intCells L)) :
    Calls Try.prog 122 #[.slice a n c, .int .i64 f, .int .i64 v] w fun e w' => e = .returned (.int .i64 (leastTo L f v)) ∧ ∃ q, w' = w.drewN q := by
  have hfl : f < L.length := by omega
  obtain ⟨b, o, rfl, _, hc⟩ := hat.spot (fun e => by have := congrArg List.length e; simp [intCells] at this; rw [this] at hfl; simp at hfl)
  have HC := Lib.hid (show ∀ j, j < L.length → w.cell? ⟨b, o + j, none⟩ = some (.int .i64 (L.getD j 0)) from fun j hj => cells_int j _ rfl hj hc)
  have HN := Lib.hid hn
  clear hat hc hn hfl
  go_enter Try.func122, Try.ntmps122
  go_wp2
  go_loopw [7, 8] (fun b_ k_ wr => ∃ m x : Nat, m ≤ v ∧ k_ = .int .i64 ((f + m : Nat) : Int) ∧ b_ = .int .i64 x ∧ x < n ∧ Hid (x = leastTo L f m) ∧ ∃ q, wr = w.drewN q) (fun _ k_ _ => f + v - (intOf k_).toNat)
  case atStart => exact ⟨0, f, Nat.zero_le _, rfl, rfl, by omega, Lib.hid rfl, 0, rfl⟩
  case round =>
    obtain ⟨m, x, hm, rfl, rfl, hx, HX, q, rfl⟩ := hrel
    obtain ⟨k, hk⟩ : ∃ k, f + m = k := ⟨_, rfl⟩
    rw [hk]
    by_cases hlt : m < v
    · have hkn : k < n := by omega
      have hkv : k < f + v := by omega
      have g1 : w.cell? ⟨b, o + k, none⟩ = some (.int .i64 (L.getD k 0)) := HC.out k (by have := HN.out; omega)
      have g2 : w.cell? ⟨b, o + x, none⟩ = some (.int .i64 (L.getD x 0)) := HC.out x (by have := HN.out; omega)
      obtain ⟨y, hy⟩ : ∃ y, L.getD k 0 = y := ⟨_, rfl⟩
      obtain ⟨z, hz⟩ : ∃ z, L.getD x 0 = z := ⟨_, rfl⟩
      rw [hy] at g1
      rw [hz] at g2
      by_cases hyz : y ≤ z
      · have HN2 := Lib.hid (show k = leastTo L f (m + 1) by rw [leastTo, if_pos (by rw [hk, hy, ← HX.out, hz]; exact hyz), hk])
        have HK := Lib.hid hk
        clear hy hz hk
        go_wp2
        go_quiet (fail)
        go_wp2
        go_roundw
        case rel => exact ⟨m + 1, k, by omega, by have := HK.out; go_num, rfl, hkn, HN2, _, rfl⟩
        case measure => simp [intOf]; omega
      · have HN2 := Lib.hid (show x = leastTo L f (m + 1) by rw [leastTo, if_neg (by rw [hk, hy, ← HX.out, hz]; exact hyz)]; exact HX.out)
        have HK := Lib.hid hk
        clear hy hz hk
        go_wp2
        go_quiet (fail)
        go_wp2
        go_roundw
        case rel => exact ⟨m + 1, x, by omega, by have := HK.out; go_num, rfl, hx, HN2, _, rfl⟩
        case measure => simp [intOf]; omega
    · obtain rfl : m = v := by omega
      have hkv : k = f + m := hk.symm
      clear hk
      go_wp2
      go_ret
      exact ⟨ret_i64 (by have := HX.out; omega), q, rfl⟩

set_option maxHeartbeats 2000000 in
theorem specChosen_any (L : List Int) (a : Option Addr) (n c : Nat) (v : Int) (w : World) (hn : n = L.length) (hl : n ≤ 4194304) (hv9 : v ≤ 9223372036854775807) (hat : CellsAt w a (intCells L)) :
    Calls Try.prog 109 #[.slice a n c, .int .i64 v] w fun e w' => ∃ a' n' c', e = .returned (.slice a' n' c') ∧ One w w.heap.size w' 3 1 a' n' c' (natC (chosenN L v)) := by
  by_cases hv : v < 1
  · rw [chosenN_few (.inl hv)]
    go_enter Try.func109, Try.ntmps109
    go_wp2
    go_ret
    exact ⟨_, _, _, rfl, One.empty _ _ _⟩
  obtain ⟨v, rfl⟩ : ∃ u : Nat, v = u := ⟨v.toNat, by omega⟩
  have hv1 : 1 ≤ v := by omega
  have HE := Lib.hid (chosenN_ok (L := L) (w := v) (by omega))
  have HN := Lib.hid hn
  clear hv hn
  go_enter Try.func109, Try.ntmps109
  go_wp2
  go_loopw [5, 6] (fun o_ k_ wr => ∃ k : Nat, k ≤ n + 1 - v ∧ k_ = .int .i64 k ∧ ∃ a' n' c', o_ = .slice a' n' c' ∧ One w w.heap.size wr 3 1 a' n' c' (natC (chN L v k))) (fun _ k_ _ => n + 1 - v - (intOf k_).toNat)
  case atStart => exact ⟨0, Nat.zero_le _, rfl, _, _, _, rfl, One.empty _ _ _⟩
  case round =>
    obtain ⟨k, hk, rfl, a', n', c', rfl, hone⟩ := hrel
    by_cases hlt : k + v ≤ n
    · have hn' : n' ≤ k := by
        have h := hone.own.1
        have h2 := chN_len L v k
        simp only [natC, intCells, List.length_map] at h
        omega
      have c1 := specLeast_any L a n c k v wr HN.out (by omega) (by omega) (by omega) (hat.below hone.below)
      have hx9 := (leastTo_is L k v (by omega)).hi
      obtain ⟨x, hx⟩ : ∃ x, leastTo L k v = x := ⟨_, rfl⟩
      rw [hx] at c1 hx9
      have HX := Lib.hid hx
      clear hx
      go_wp2_with fail
      refine c1.mono ?_
      rintro e w2 ⟨rfl, q, rfl⟩
      have hone2 := hone.drewN q
      obtain ⟨wz, HW⟩ : ∃ wz, Hid (wr.drewN q = wz) := ⟨_, Lib.hid rfl⟩
      rw [HW.out] at hone2 ⊢
      clear hone c1 HW
      by_cases hn0 : n' = 0
      · subst hn0
        have hnil : chN L v k = [] := by
          have h := hone2.own.1
          simp only [natC, intCells, List.length_map] at h
          exact List.length_eq_zero_iff.1 (by omega)
        have HS := Lib.hid (show natC (chN L v (k + 1)) = natC (chN L v k) ++ [.int .i64 x] by rw [natC_new (by rw [hnil]; simp), HX.out])
        clear hnil
        go_wp2_with (at_builtin; refine wpList_append_row rfl (.tmp 37) (.tmp 39) 33 rfl Try.ulI3 Try.infoI3 rfl (by decide) hone2 rfl #[.int .i64 x] rfl rfl (by simp [Value.oneCell']) (by unfold maxLen; omega) (by omega) ?_; intro a5 c5 w5 h5)
        go_roundw
        case rel => exact ⟨k + 1, by omega, by go_num, a5, 1, c5, rfl, by rw [HS.out]; exact h5⟩
        case measure => simp [intOf]; omega
      · obtain ⟨p, rfl⟩ : ∃ p, n' = p + 1 := ⟨n' - 1, by omega⟩
        obtain ⟨m, rfl⟩ : ∃ m, k = m + 1 := ⟨k - 1, by omega⟩
        obtain ⟨g, rfl⟩ := hone2.addr (by omega)
        have hlast := chN_last L v m
        obtain ⟨y, hy⟩ : ∃ y, leastTo L m v = y := ⟨_, rfl⟩
        rw [hy] at hlast
        have hcell : wz.cell? ⟨g, p, none⟩ = some (.int .i64 (y : Int)) := by
          rw [hone2.own.cellAt p (by omega)]
          have h := hone2.own.1
          simp only [natC, intCells, List.length_map] at h
          rw [List.getLast?_eq_getElem?, show (chN L v (m + 1)).length - 1 = p by omega] at hlast
          simp [natC, intCells, hlast]
        have HL := Lib.hid hlast
        have z0 : (0 : Int) ≤ p := by omega
        have z1 : (p : Int) < (p : Int) + 1 := by omega
        clear hy hlast
        by_cases hxy : y = x
        · have t1 : ((y : Int) == (x : Int)) = true := by rw [hxy]; exact beq_self_eq_true _
          have t2 : ((y : Int) != (x : Int)) = false := by rw [bne, t1]; rfl
          have HS := Lib.hid (show natC (chN L v (m + 1 + 1)) = natC (chN L v (m + 1)) by rw [chN_same (by rw [HL.out, hxy, HX.out])])
          clear hxy
          go_wp2
          go_roundw
          case rel => exact ⟨m + 1 + 1, by omega, by go_num, _, p + 1, c', rfl, by rw [HS.out]; exact hone2⟩
          case measure => simp [intOf]; omega
        · have t1 : ((y : Int) == (x : Int)) = false := by simp; omega
          have t2 : ((y : Int) != (x : Int)) = true := by rw [bne, t1]; rfl
          have HS := Lib.hid (show natC (chN L v (m + 1 + 1)) = natC (chN L v (m + 1)) ++ [.int .i64 x] by rw [natC_new (by rw [HL.out, HX.out]; simpa using hxy), HX.out])
          clear hxy
          go_wp2_with (at_builtin; refine wpList_append_row rfl (.tmp 37) (.tmp 39) 33 rfl Try.ulI3 Try.infoI3 rfl (by decide) hone2 rfl #[.int .i64 x] rfl rfl (by simp [Value.oneCell']) (by unfold maxLen; omega) (by omega) ?_; intro a5 c5 w5 h5)
          go_roundw
          case rel => exact ⟨m + 1 + 1, by omega, by go_num, a5, p + 1 + 1, c5, rfl, by rw [HS.out]; exact h5⟩
          case measure => simp [intOf]; omega
    · have hke : k = L.length + 1 - v := by have := HN.out; omega
      have HO := Lib.hid (show One w w.heap.size wr 3 1 a' n' c' (natC (chosenN L v)) by rw [HE.out, ← hke]; exact hone)
      clear hone hke
      go_wp2
      go_ret
      exact ⟨_, _, _, rfl, HO.out⟩


end Go.Proofs.Ytclblnkeakkdeaa
