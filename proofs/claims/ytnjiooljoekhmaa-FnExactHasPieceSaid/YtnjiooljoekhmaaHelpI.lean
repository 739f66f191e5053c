/-
  The contracts of the laws' own helpers over slices of int: eqIntS (are they equal), markIntS (write ascending numbers), heldIntS (are they still there). Conditions: fewer than 2^40 elements; markIntS: the slice is the call's own.
-/
import Derived.Test.YtnjiooljoekhmaaProg
import Derived.Test.YtnjiooljoekhmaaSig
import Derived.Test.YtnjiooljoekhmaaOwnA
import Derived.WalkKit
import Derived.Lib.Hide
import Derived.Deep.QuietTactic
import Derived.BigQuiet
namespace Go.Proofs.Ytnjiooljoekhmaa
open Go.RowKit

theorem list_differs : ∀ (xs ys : List Int), xs.length = ys.length → xs ≠ ys → ∃ j, j < xs.length ∧ xs.getD j 0 ≠ ys.getD j 0 ∧ ∀ i, i < j → xs.getD i 0 = ys.getD i 0
  | [], [], _, h => absurd rfl h
  | x :: xs, y :: ys, hl, h => by
    by_cases hxy : x = y
    · subst hxy
      obtain ⟨j, hj, hd, hs⟩ := list_differs xs ys (by simpa using hl) (fun e => h (by rw [e]))
      refine ⟨j + 1, by simpa using hj, by simpa using hd, fun i hi => ?_⟩
      cases i with
      | zero => rfl
      | succ i => simpa using hs i (by omega)
    · exact ⟨0, by simp, by simpa using hxy, fun i hi => by omega⟩

theorem eqIntS_len (a b : Option Addr) (n m c d : Nat) (w : World) (h : n ≠ m) :
    Calls Try.prog 24 #[.slice a n c, .slice b m d] w fun e w' => e = .returned (.bool false) ∧ ∃ q, w' = w.drewN q := by
  have t1 : ((n : Int) != (m : Int)) = true := by simp; omega
  go_enter Try.func24, Try.ntmps24
  go_wp2
  go_ret
  exact ⟨rfl, 0, rfl⟩

theorem eqIntS_same (a b : Option Addr) (c d : Nat) (xs : List Int) (w : World) (hn : xs.length < 1099511627776) (h1 : IntsAt w a xs) (h2 : IntsAt w b xs) :
    Calls Try.prog 24 #[.slice a xs.length c, .slice b xs.length d] w fun e w' => e = .returned (.bool true) ∧ ∃ q, w' = w.drewN q := by
  obtain ⟨n, hxs⟩ : ∃ n, xs.length = n := ⟨_, rfl⟩
  rw [hxs] at hn ⊢
  by_cases h0 : n = 0
  · subst h0
    go_enter Try.func24, Try.ntmps24
    go_wp2
    refine wp_loop_rounds 1 ?_
    rw [rounds_succ]
    go_wp2
    go_ret
    exact ⟨rfl, 0, rfl⟩
  · have hne : xs ≠ [] := fun e => h0 (by rw [← hxs, e]; rfl)
    obtain ⟨b1, o1, rfl, hc1⟩ := h1.spot hne
    obtain ⟨b2, o2, rfl, hc2⟩ := h2.spot hne
    rw [hxs] at hc1 hc2
    have H1 := Lib.hid hc1
    have H2 := Lib.hid hc2
    have HX := Lib.hid hxs
    clear h1 h2 hc1 hc2 hne hxs
    go_enter Try.func24, Try.ntmps24
    go_wp2
    go_loopw [5] (fun i wr => ∃ k : Nat, k ≤ n ∧ i = .int .i64 k ∧ ∃ q, wr = w.drewN q) (fun i _ => n - (intOf i).toNat)
    case atStart => exact ⟨0, Nat.zero_le _, rfl, 0, rfl⟩
    case round =>
      obtain ⟨k, hk, rfl, q, rfl⟩ := hrel
      by_cases hlt : k < n
      · have g1 : w.cell? ⟨b1, o1 + k, none⟩ = some (.int .i64 (xs.getD k 0)) := H1.out k hlt
        have g2 : w.cell? ⟨b2, o2 + k, none⟩ = some (.int .i64 (xs.getD k 0)) := H2.out k hlt
        obtain ⟨z, hz⟩ : ∃ z, xs.getD k 0 = z := ⟨_, rfl⟩
        rw [hz] at g1 g2
        clear hz
        go_wp2
        go_quiet (fail)
        go_wp2
        go_roundw
        case rel => exact ⟨k + 1, by omega, by go_num, _, rfl⟩
        case measure => simp [intOf]; omega
      · go_wp2
        go_ret
        exact ⟨rfl, q, rfl⟩

/-- Ascending numbers from m on. -/
def marks (m : Int) : Nat → List Int
  | 0 => []
  | k + 1 => marks m k ++ [m + k]

theorem marks_len (m : Int) (k : Nat) : (marks m k).length = k := by
  induction k with
  | zero => rfl
  | succ k ih => simp [marks, ih]

theorem marks_get (m : Int) (n k : Nat) (h : k < n) : (marks m n).getD k 0 = m + k := by
  induction n with
  | zero => omega
  | succ n ih =>
    simp only [marks, List.getD]
    by_cases hk : k < n
    · rw [List.getElem?_append_left (by rw [marks_len]; exact hk)]
      exact ih hk
    · obtain rfl : k = n := by omega
      rw [List.getElem?_append_right (by rw [marks_len]; exact Nat.le_refl _), marks_len]
      simp

theorem marks_step (m : Int) (xs : List Int) (k : Nat) (h : k < xs.length) : (intCells (marks m k ++ xs.drop k)).set k (.int .i64 (m + k)) = intCells (marks m (k + 1) ++ xs.drop (k + 1)) := by
  have e : xs.drop k = xs[k] :: xs.drop (k + 1) := (List.drop_eq_getElem_cons h)
  have e2 : (marks m k ++ xs.drop k).set k (m + k) = marks m (k + 1) ++ xs.drop (k + 1) := by
    rw [List.set_append, if_neg (by rw [marks_len]; omega), marks_len, Nat.sub_self, e, List.set_cons_zero, marks, List.append_assoc]
    rfl
  rw [← e2, intCells, intCells, List.map_set]

set_option maxHeartbeats 1000000 in
theorem markIntS_any (B : Nat) (a : Option Addr) (n c : Nat) (xs : List Int) (m : Int) (w : World) (hown : w.ownsRow B 3 1 (.slice a n c) n (intCells xs)) (hn : n < 1099511627776) (h0 : 0 ≤ m) (hm : m < 1099511627776) :
    Calls Try.prog 25 #[.slice a n c, .int .i64 m] w fun e w' => e = .returned (.int .i64 (m + n)) ∧ w'.ownsRow B 3 1 (.slice a n c) n (intCells (marks m n)) ∧ w.grownBy w' (Value.ownBlock (.slice a n c)) := by
  have hlen : xs.length = n := (intsAt_own hown).1.symm
  by_cases hz : n = 0
  · subst hz
    have hx : xs = [] := List.length_eq_zero_iff.1 hlen
    subst hx
    go_enter Try.func25, Try.ntmps25
    go_wp2
    refine wp_loop_rounds 1 ?_
    rw [rounds_succ]
    go_wp2
    go_ret
    exact ⟨ret_int (by simp), hown, World.grownBy.refl _ _⟩
  · have hne : xs ≠ [] := fun e => hz (by rw [← hlen, e]; rfl)
    obtain ⟨g, rfl⟩ : ∃ g, a = some ⟨g, 0, none⟩ := by
      rcases hown.2 with ⟨hv, h0⟩ | ⟨g, cap', cur, hv, _⟩
      · exact absurd h0 hz
      · exact ⟨g, (by simpa using hv : a = some ⟨g, 0, none⟩ ∧ c = cap').1⟩
    have HL := Lib.hid hlen
    clear hlen hne
    go_enter Try.func25, Try.ntmps25
    go_wp2
    go_loopw [1, 5] (fun q i wr => ∃ k : Nat, k ≤ n ∧ i = .int .i64 k ∧ q = .int .i64 (m + k) ∧ wr.ownsRow B 3 1 (.slice (some ⟨g, 0, none⟩) n c) n (intCells (marks m k ++ xs.drop k)) ∧ w.grownBy wr (some g)) (fun _ i _ => n - (intOf i).toNat)
    case atStart => exact ⟨0, Nat.zero_le _, rfl, by go_num, by simpa [marks] using hown, World.grownBy.refl _ _⟩
    case round =>
      obtain ⟨k, hk, rfl, rfl, hownr, hg⟩ := hrel
      by_cases hlt : k < n
      · have hfz : wr.frozen? ⟨g, k, none⟩ = false := hownr.frozenAt k
        have hcell : wr.cell? ⟨g, k, none⟩ = some (.int .i64 ((marks m k ++ xs.drop k).getD k 0)) := by
          have hh := (intsAt_own hownr)
          rw [hownr.cellAt k (by omega)]
          have : k < (marks m k ++ xs.drop k).length := by rw [← hh.1]; exact hlt
          show (List.map _ _)[k]? = _
          rw [List.getElem?_map, List.getD_eq_getElem?_getD, List.getElem?_eq_getElem this]
          rfl
        have hst := hownr.stored k (.int .i64 (m + k))
        rw [marks_step m xs k (by rw [HL.out]; exact hlt)] at hst
        obtain ⟨z, hz⟩ : ∃ z, (marks m k ++ xs.drop k).getD k 0 = z := ⟨_, rfl⟩
        rw [hz] at hcell
        clear hz hownr
        obtain ⟨hs1, hs2⟩ := hst
        go_wp2
        go_roundw
        case rel => exact ⟨k + 1, by omega, by go_num, by go_num, hs1, grownBy_trans hg hs2⟩
        case measure => simp [intOf]; omega
      · obtain rfl : k = n := by omega
        rw [show marks m k ++ xs.drop k = marks m k from by rw [List.drop_of_length_le (by rw [HL.out]; exact Nat.le_refl _), List.append_nil]] at hownr
        go_wp2
        go_ret
        exact ⟨rfl, hownr, hg⟩

theorem heldIntS_any (a : Option Addr) (n c : Nat) (m : Int) (w : World) (hat : IntsAt w a (marks m n)) (hn : n < 1099511627776) (h0 : 0 ≤ m) (hm : m < 1099511627776) :
    Calls Try.prog 26 #[.slice a n c, .int .i64 m] w fun e w' => e = .returned (.int .i64 (m + n)) ∧ w = w' := by
  by_cases hz : n = 0
  · subst hz
    clear hat
    go_enter Try.func26, Try.ntmps26
    go_wp2
    refine wp_loop_rounds 1 ?_
    rw [rounds_succ]
    go_wp2
    go_ret
    exact ⟨ret_int (by simp), rfl⟩
  · obtain ⟨b, o, rfl, hc⟩ := hat.spot (fun e => hz (by rw [← marks_len m n, e]; rfl))
    rw [marks_len] at hc
    have HC := Lib.hid hc
    clear hc hat
    go_enter Try.func26, Try.ntmps26
    go_wp2
    go_loop [1, 5] (fun q i => ∃ k : Nat, k ≤ n ∧ i = .int .i64 k ∧ q = .int .i64 (m + k)) (fun _ i => n - (intOf i).toNat)
    case atStart => exact ⟨0, Nat.zero_le _, rfl, by go_num⟩
    case round =>
      obtain ⟨k, hk, rfl, rfl⟩ := hrel
      by_cases hlt : k < n
      · have g1 := HC.out k hlt
        rw [marks_get m n k hlt] at g1
        go_wp2
        go_round
        case rel => exact ⟨k + 1, by omega, by go_num, by go_num⟩
        case measure => simp [intOf]; omega
      · obtain rfl : k = n := by omega
        go_wp2
        go_ret
        exact ⟨rfl, rfl⟩

end Go.Proofs.Ytnjiooljoekhmaa
