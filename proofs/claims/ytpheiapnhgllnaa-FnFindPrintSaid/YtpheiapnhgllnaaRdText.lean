/-
  The contracts of the model's draws of words, gaps and texts: they return short strings, and write nothing but the reader's own place. Condition: the reader is one.
-/
import Derived.Test.YtpheiapnhgllnaaRd
namespace Go.Proofs.Ytpheiapnhgllnaa
open Go.RowKit

/-- A row that was laid just ahead of a step of the reader is there behind it. -/
theorem laid_row {w w2 : World} {o : Obj} {g : Nat} (hg : (w.alloc o).grownBy w2 (some g)) (hlt : g < w.heap.size) : w2.heap[w.heap.size]? = some o :=
  (hg.block w.heap.size (by simp) (by simp; omega)).trans (heap_alloc_new w o)

theorem rd_alloc {w : World} {g : Nat} {a : Option Addr} {n c B : Nat} (h : RdAt w g a n c B) (o : Obj) : RdAt (w.alloc o) g a n c B :=
  h.kept (fun k hk => Below.heap_alloc w o k (Nat.lt_of_le_of_lt hk h.lt))

set_option maxHeartbeats 1000000 in
theorem gap_any (w : World) (g : Nat) (a : Option Addr) (n c B : Nat) (hB : B < 1000000) (h : RdAt w g a n c B) :
    Calls Try.prog 41 #[.pointer (some ⟨g, 0, none⟩)] w fun e w' => ∃ t : ByteArray, t.size ≤ 8 ∧ e = .returned (.string t) ∧ RdAt w' g a n c (B + 1) ∧ w.grownBy w' (some g) := by
  go_enter Try.func41, Try.ntmps41
  go_wp2_with fail
  refine (pick_pos _ g a n c B 11 hB (rd_alloc h _) (by omega) (by omega)).mono ?_
  rintro e w2 ⟨r, hr, rfl, hrd, hg⟩
  have hrow := laid_row hg h.lt
  have hG : w.grownBy w2 (some g) := grownBy_trans (World.grownBy_alloc w _ _) hg
  obtain ⟨t, ht, hc⟩ : ∃ t : ByteArray, t.size ≤ 8 ∧ w2.cell? ⟨w.heap.size, r, none⟩ = some (.string t) := by
    rw [cell_of_row w2 w.heap.size r _ _ _ hrow]
    have : r = 0 ∨ r = 1 ∨ r = 2 ∨ r = 3 ∨ r = 4 ∨ r = 5 ∨ r = 6 ∨ r = 7 ∨ r = 8 ∨ r = 9 ∨ r = 10 := by omega
    rcases this with rfl | rfl | rfl | rfl | rfl | rfl | rfl | rfl | rfl | rfl | rfl
    all_goals exact ⟨_, by decide, rfl⟩
  clear hrow hg
  go_wp2
  go_ret
  exact ⟨t, ht, rfl, hrd, hG⟩

set_option maxHeartbeats 1000000 in
theorem word_any (w : World) (g : Nat) (a : Option Addr) (n c B : Nat) (hB : B < 1000000) (h : RdAt w g a n c B) :
    Calls Try.prog 42 #[.pointer (some ⟨g, 0, none⟩)] w fun e w' => ∃ t : ByteArray, t.size ≤ 8 ∧ e = .returned (.string t) ∧ RdAt w' g a n c (B + 1) ∧ w.grownBy w' (some g) := by
  go_enter Try.func42, Try.ntmps42
  go_wp2_with fail
  refine (pick_pos _ g a n c B 16 hB (rd_alloc h _) (by omega) (by omega)).mono ?_
  rintro e w2 ⟨r, hr, rfl, hrd, hg⟩
  have hrow := laid_row hg h.lt
  have hG : w.grownBy w2 (some g) := grownBy_trans (World.grownBy_alloc w _ _) hg
  obtain ⟨t, ht, hc⟩ : ∃ t : ByteArray, t.size ≤ 8 ∧ w2.cell? ⟨w.heap.size, r, none⟩ = some (.string t) := by
    rw [cell_of_row w2 w.heap.size r _ _ _ hrow]
    have : r = 0 ∨ r = 1 ∨ r = 2 ∨ r = 3 ∨ r = 4 ∨ r = 5 ∨ r = 6 ∨ r = 7 ∨ r = 8 ∨ r = 9 ∨ r = 10 ∨ r = 11 ∨ r = 12 ∨ r = 13 ∨ r = 14 ∨ r = 15 := by omega
    rcases this with rfl | rfl | rfl | rfl | rfl | rfl | rfl | rfl | rfl | rfl | rfl | rfl | rfl | rfl | rfl | rfl
    all_goals exact ⟨_, by decide, rfl⟩
  clear hrow hg
  go_wp2
  go_ret
  exact ⟨t, ht, rfl, hrd, hG⟩

theorem size_append (a b : ByteArray) : (a ++ b).size = a.size + b.size := by simp

/-- The loop and the end of l20Text, from whatever text it begins with. -/
theorem extract_size (t : ByteArray) (k : Nat) : (t.extract 0 k).size ≤ t.size := by simp; omega

set_option maxHeartbeats 4000000 in
theorem text_any (w : World) (g : Nat) (a : Option Addr) (n c B : Nat) (most : Nat) (hm : most ≤ 1000) (hB : B < 100000) (h : RdAt w g a n c B) :
    Calls Try.prog 32 #[.pointer (some ⟨g, 0, none⟩), .int .i64 most] w fun e w' => ∃ t : ByteArray, t.size ≤ 8 + 16 * most ∧ e = .returned (.string t) ∧ RdAt w' g a n c (B + 4 + 2 * most) ∧ w.grownBy w' (some g) := by
  go_enter Try.func32, Try.ntmps32
  go_wp2_with fail
  refine (pick_pos _ g a n c B 6 (by omega) h (by omega) (by omega)).mono ?_
  rintro e w1 ⟨r, hr, rfl, hrd1, hg1⟩
  by_cases hr0 : r = 0
  · have t0 : ((r : Int) == 0) = true := by rw [hr0]; rfl
    clear hr0
    go_wp2_with fail
    refine (gap_any _ g a n c _ (by omega) hrd1).mono ?_
    rintro e w2 ⟨t0', ht0, rfl, hrd, hg2⟩
    have hG : w.grownBy w2 (some g) := grownBy_trans hg1 hg2
    clear hg1 hg2 hrd1
    go_wp2_with fail
    refine (pick_pos _ g a n c (B + 2) ((most : Int) + 1) (by omega) hrd (by omega) (by omega)).mono ?_
    rintro e w3 ⟨k0, hk0, rfl, hrd3, hg3⟩
    have hG3 : w.grownBy w3 (some g) := grownBy_trans hG hg3
    clear hg3 hG hrd
    go_wp2
    go_loopw [5, 6] (fun v i wr => ∃ (k : Nat) (t : ByteArray), k ≤ k0 ∧ i = .int .i64 k ∧ v = .string t ∧ t.size ≤ 8 + 16 * (k0 - k) ∧ RdAt wr g a n c (B + 3 + 2 * (k0 - k)) ∧ w.grownBy wr (some g)) (fun _ i _ => (intOf i).toNat)
    case atStart => exact ⟨k0, _, Nat.le_refl _, rfl, rfl, by omega, hrd3.more (by omega), hG3⟩
    case round =>
      obtain ⟨k, t, hk, rfl, rfl, ht, hrd, hG⟩ := hrel
      by_cases hpos : 0 < k
      · go_wp2_with fail
        refine (word_any _ g a n c _ (by omega) hrd).mono ?_
        rintro e w4 ⟨t1, ht1, rfl, hrd4, hg4⟩
        go_wp2_with fail
        refine (gap_any _ g a n c _ (by omega) hrd4).mono ?_
        rintro e w5 ⟨t2, ht2, rfl, hrd5, hg5⟩
        have hG5 : w.grownBy w5 (some g) := grownBy_trans (grownBy_trans hG hg4) hg5
        clear hG hg4 hg5 hrd hrd4
        go_wp2
        go_roundw
        case rel => exact ⟨k - 1, t ++ (t1 ++ t2), by omega, by go_num, rfl, by rw [size_append, size_append]; omega, hrd5.more (by omega), hG5⟩
        case measure => simp [intOf]; omega
      · obtain rfl : k = 0 := by omega
        go_wp2_with fail
        refine (pick_pos _ g a n c _ 2 (by omega) hrd (by omega) (by omega)).mono ?_
        rintro e w6 ⟨q, hq, rfl, hrd6, hg6⟩
        have hG6 : w.grownBy w6 (some g) := grownBy_trans hG hg6
        have hrd7 := hrd6.more (B' := B + 4 + 2 * most) (by omega)
        clear hG hg6 hrd hrd6
        by_cases hq0 : (q : Int) = 0 ∧ 0 < t.size
        · obtain ⟨hq1, hq2⟩ := hq0
          have t1 : ((q : Int) == 0) = true := by rw [hq1]; rfl
          clear hq1
          go_wp2
          go_ret
          exact ⟨_, Nat.le_trans (extract_size t _) (by omega), rfl, hrd7, hG6⟩
        · by_cases hq1 : (q : Int) = 0
          · have t1 : ((q : Int) == 0) = true := by rw [hq1]; rfl
            have t2 : t.size = 0 := by omega
            clear hq1
            go_wp2
            go_ret
            exact ⟨_, by omega, rfl, hrd7, hG6⟩
          · have t1 : ((q : Int) == 0) = false := by simp; omega
            go_wp2
            go_ret
            exact ⟨_, by omega, rfl, hrd7, hG6⟩
  · have t0 : ((r : Int) == 0) = false := by simp; omega
    have hrd := hrd1.more (B' := B + 2) (by omega)
    have hG := hg1
    clear hr0 hg1 hrd1
    go_wp2_with fail
    refine (pick_pos _ g a n c (B + 2) ((most : Int) + 1) (by omega) hrd (by omega) (by omega)).mono ?_
    rintro e w3 ⟨k0, hk0, rfl, hrd3, hg3⟩
    have hG3 : w.grownBy w3 (some g) := grownBy_trans hG hg3
    clear hg3 hG hrd
    go_wp2
    go_loopw [5, 6] (fun v i wr => ∃ (k : Nat) (t : ByteArray), k ≤ k0 ∧ i = .int .i64 k ∧ v = .string t ∧ t.size ≤ 8 + 16 * (k0 - k) ∧ RdAt wr g a n c (B + 3 + 2 * (k0 - k)) ∧ w.grownBy wr (some g)) (fun _ i _ => (intOf i).toNat)
    case atStart => exact ⟨k0, _, Nat.le_refl _, rfl, rfl, Nat.zero_le _, hrd3.more (by omega), hG3⟩
    case round =>
      obtain ⟨k, t, hk, rfl, rfl, ht, hrd, hG⟩ := hrel
      by_cases hpos : 0 < k
      · go_wp2_with fail
        refine (word_any _ g a n c _ (by omega) hrd).mono ?_
        rintro e w4 ⟨t1, ht1, rfl, hrd4, hg4⟩
        go_wp2_with fail
        refine (gap_any _ g a n c _ (by omega) hrd4).mono ?_
        rintro e w5 ⟨t2, ht2, rfl, hrd5, hg5⟩
        have hG5 : w.grownBy w5 (some g) := grownBy_trans (grownBy_trans hG hg4) hg5
        clear hG hg4 hg5 hrd hrd4
        go_wp2
        go_roundw
        case rel => exact ⟨k - 1, t ++ (t1 ++ t2), by omega, by go_num, rfl, by rw [size_append, size_append]; omega, hrd5.more (by omega), hG5⟩
        case measure => simp [intOf]; omega
      · obtain rfl : k = 0 := by omega
        go_wp2_with fail
        refine (pick_pos _ g a n c _ 2 (by omega) hrd (by omega) (by omega)).mono ?_
        rintro e w6 ⟨q, hq, rfl, hrd6, hg6⟩
        have hG6 : w.grownBy w6 (some g) := grownBy_trans hG hg6
        have hrd7 := hrd6.more (B' := B + 4 + 2 * most) (by omega)
        clear hG hg6 hrd hrd6
        by_cases hq0 : (q : Int) = 0 ∧ 0 < t.size
        · obtain ⟨hq1, hq2⟩ := hq0
          have t1 : ((q : Int) == 0) = true := by rw [hq1]; rfl
          clear hq1
          go_wp2
          go_ret
          exact ⟨_, Nat.le_trans (extract_size t _) (by omega), rfl, hrd7, hG6⟩
        · by_cases hq1 : (q : Int) = 0
          · have t1 : ((q : Int) == 0) = true := by rw [hq1]; rfl
            have t2 : t.size = 0 := by omega
            clear hq1
            go_wp2
            go_ret
            exact ⟨_, by omega, rfl, hrd7, hG6⟩
          · have t1 : ((q : Int) == 0) = false := by simp; omega
            go_wp2
            go_ret
            exact ⟨_, by omega, rfl, hrd7, hG6⟩

end Go.Proofs.Ytpheiapnhgllnaa
