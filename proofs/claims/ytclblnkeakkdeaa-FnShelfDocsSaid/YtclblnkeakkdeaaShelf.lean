/-
  The contracts of the model's functions EntryLess and ShelfOk. Condition: rows have at most 2^22 entries.
-/
import Derived.Test.YtclblnkeakkdeaaTri
import Derived.Test.YtclblnkeakkdeaaPrintK
import Derived.Deep.QuietTactic
import Derived.Deep.RegionHeld3
import Derived.BigQuiet
import Derived.IntWalk
namespace Go.Proofs.Ytclblnkeakkdeaa
open Go.RowKit

theorem Try.ulE5 : Try.prog.underlying 23 = some (.slice 31) := by kernel_rfl
theorem Try.infoE5 : (Try.prog.info? 31).map (fun i => (i.zero, i.size, i.bytes)) = some (some (.agg #[.int .i64 0, .int .i64 0, .int .i64 0]), 3, 24) := by kernel_rfl

theorem enLt_iff (a b c d e f : Int) : enLt (a, b, c) (d, e, f) ↔ a < d ∨ a = d ∧ (b < e ∨ b = e ∧ c < f) := Iff.rfl

theorem specLess_any (a b c d e f : Int) (w : World) :
    Calls Try.prog 101 #[.agg #[.int .i64 a, .int .i64 b, .int .i64 c], .agg #[.int .i64 d, .int .i64 e, .int .i64 f]] w fun r w' => r = .returned (.bool (decide (enLt (a, b, c) (d, e, f)))) ∧ Below w.heap.size w w' := by
  by_cases h1 : a = d
  · subst h1
    have t1 : (a == a) = true := beq_self_eq_true _
    have t1' : (a != a) = false := by rw [bne, t1]; rfl
    by_cases h2 : b = e
    · subst h2
      have t2 : (b == b) = true := beq_self_eq_true _
      have t2' : (b != b) = false := by rw [bne, t2]; rfl
      have HD := Lib.hid (show decide (enLt (a, b, c) (a, b, f)) = decide (c < f) from decide_eq_decide.2 (by rw [enLt_iff]; constructor <;> omega))
      go_enter Try.func101, Try.ntmps101
      go_wp2
      go_ret
      exact ⟨by rw [HD.out]; rfl, below_alloc2 _ _ _⟩
    · have t2 : (b == e) = false := by simpa using h2
      have t2' : (b != e) = true := by rw [bne, t2]; rfl
      have HD := Lib.hid (show decide (enLt (a, b, c) (a, e, f)) = decide (b < e) from decide_eq_decide.2 (by rw [enLt_iff]; constructor <;> omega))
      clear h2
      go_enter Try.func101, Try.ntmps101
      go_wp2
      go_ret
      exact ⟨by rw [HD.out]; rfl, below_alloc2 _ _ _⟩
  · have t1 : (a == d) = false := by simpa using h1
    have t1' : (a != d) = true := by rw [bne, t1]; rfl
    have HD := Lib.hid (show decide (enLt (a, b, c) (d, e, f)) = decide (a < d) from decide_eq_decide.2 (by rw [enLt_iff]; constructor <;> omega))
    clear h1
    go_enter Try.func101, Try.ntmps101
    go_wp2
    go_ret
    exact ⟨by rw [HD.out]; rfl, below_alloc2 _ _ _⟩
theorem specLess_is (r : Bool) (a b c d e f : Int) (w : World) (h : r = true ↔ enLt (a, b, c) (d, e, f)) :
    Calls Try.prog 101 #[.agg #[.int .i64 a, .int .i64 b, .int .i64 c], .agg #[.int .i64 d, .int .i64 e, .int .i64 f]] w fun x w' => x = .returned (.bool r) ∧ Below w.heap.size w w' := by
  have e1 : decide (enLt (a, b, c) (d, e, f)) = r := by rw [Bool.eq_iff_iff, decide_eq_true_iff]; exact h.symm
  rw [← e1]
  exact specLess_any a b c d e f w

theorem below_ents {w wr : World} {B : Nat} (h : Below B w wr) {b o : Nat} (hb : b < B) {v : Value} (k : w.cell? ⟨b, o, none⟩ = some v) : wr.cell? ⟨b, o, none⟩ = some v := (h.cell (p := ⟨b, o, none⟩) hb).trans k

set_option maxHeartbeats 4000000 in
theorem specShelfOk_is (r : Bool) (l : List En) (a : Option Addr) (n c : Nat) (w : World) (hr : r = true ↔ shOk l) (hn : n = l.length) (hl : n ≤ 4194304) (hat : CellsAt w a (entsC l)) :
    Calls Try.prog 67 #[.slice a n c] w fun e w' => e = .returned (.bool r) ∧ Below w.heap.size w w' := by
  have HN := Lib.hid hn
  have HRr := Lib.hid hr
  have HAT := Lib.hid hat
  clear hn hr hat
  go_enter Try.func67, Try.ntmps67
  go_wp2
  go_loopw [3] (fun i_ wr => ∃ k : Nat, k ≤ n ∧ i_ = .int .i64 k ∧ Hid (okTo l k) ∧ Below w.heap.size w wr) (fun i_ _ => n - (intOf i_).toNat)
  case atStart => exact ⟨0, Nat.zero_le _, rfl, Lib.hid (okTo_zero l), Below.refl _ _⟩
  case round =>
    obtain ⟨k, hk, rfl, HK, B⟩ := hrel
    by_cases hlt : k < n
    · have hkl : k < l.length := by have := HN.out; omega
      obtain ⟨x, hx⟩ : ∃ x, l[k].1 = x := ⟨_, rfl⟩
      obtain ⟨y, hy⟩ : ∃ y, l[k].2.1 = y := ⟨_, rfl⟩
      obtain ⟨z, hz⟩ : ∃ z, l[k].2.2 = z := ⟨_, rfl⟩
      have hm : l[k] = (x, y, z) := by rw [← hx, ← hy, ← hz]
      obtain ⟨b, o, rfl, hb9, g1, g2, g3⟩ := ent_cells (HAT.out.below B) hkl hm
      have HM := Lib.hid hm
      have z1 : (k : Int) < (n : Int) := by omega
      clear hx hy hz hm
      have hbad : (¬ (enOk (x, y, z) ∧ (0 < k → enLt (l[k - 1]'(by omega)) (x, y, z)))) → r = false := fun h => by
        rw [Bool.eq_false_iff]
        intro e
        refine shOk_not hkl (fun h2 => h ?_) (HRr.out.1 e)
        rw [HM.out] at h2
        exact h2
      by_cases hx0 : x < 0
      · have t1 : decide (x < 0) = true := decide_eq_true hx0
        have hf : r = false := hbad (fun h => by have h1 : 0 ≤ x ∧ x < 1000003 ∧ 0 ≤ y ∧ 0 ≤ z := h.1; omega)
        subst hf
        go_wp2
        go_quiet (fail)
        go_wp2
        go_ret
        exact ⟨rfl, below_drewN' (B.alloc B.size _) _⟩
      have t1 : decide (x < 0) = false := decide_eq_false hx0
      by_cases hx1 : 1000003 ≤ x
      · have t2 : decide (1000003 ≤ x) = true := decide_eq_true hx1
        have hf : r = false := hbad (fun h => by have h1 : 0 ≤ x ∧ x < 1000003 ∧ 0 ≤ y ∧ 0 ≤ z := h.1; omega)
        subst hf
        go_wp2
        go_quiet (fail)
        go_wp2
        go_ret
        exact ⟨rfl, below_drewN' (B.alloc B.size _) _⟩
      have t2 : decide (1000003 ≤ x) = false := decide_eq_false hx1
      by_cases hy0 : y < 0
      · have t3 : decide (y < 0) = true := decide_eq_true hy0
        have hf : r = false := hbad (fun h => by have h1 : 0 ≤ x ∧ x < 1000003 ∧ 0 ≤ y ∧ 0 ≤ z := h.1; omega)
        subst hf
        go_wp2
        go_quiet (fail)
        go_wp2
        go_ret
        exact ⟨rfl, below_drewN' (B.alloc B.size _) _⟩
      have t3 : decide (y < 0) = false := decide_eq_false hy0
      by_cases hz0 : z < 0
      · have t4 : decide (z < 0) = true := decide_eq_true hz0
        have hf : r = false := hbad (fun h => by have h1 : 0 ≤ x ∧ x < 1000003 ∧ 0 ≤ y ∧ 0 ≤ z := h.1; omega)
        subst hf
        go_wp2
        go_quiet (fail)
        go_wp2
        go_ret
        exact ⟨rfl, below_drewN' (B.alloc B.size _) _⟩
      have t4 : decide (z < 0) = false := decide_eq_false hz0
      have hok : enOk (x, y, z) := ⟨by show 0 ≤ x; omega, by show x < 1000003; omega, by show 0 ≤ y; omega, by show 0 ≤ z; omega⟩
      by_cases hk0 : k = 0
      · have HN2 := Lib.hid (okTo_next HK.out hkl (by rw [HM.out]; exact hok) (fun h => absurd h (by omega)))
        have t0 : decide ((0 : Int) < (k : Int)) = false := decide_eq_false (by omega)
        have t0' : decide (0 < k) = false := decide_eq_false (by omega)
        clear hbad hx0 hx1 hy0 hz0 hok hk0
        go_wp2
        go_quiet (fail)
        go_wp2
        go_roundw
        case rel => exact ⟨k + 1, by omega, by go_num, HN2, below_drewN' (B.alloc B.size _) _⟩
        case measure => simp [intOf]; omega
      · obtain ⟨p, rfl⟩ : ∃ p, k = p + 1 := ⟨k - 1, by omega⟩
        have hpl : p < l.length := by omega
        obtain ⟨x', hx'⟩ : ∃ x', l[p].1 = x' := ⟨_, rfl⟩
        obtain ⟨y', hy'⟩ : ∃ y', l[p].2.1 = y' := ⟨_, rfl⟩
        obtain ⟨z', hz'⟩ : ∃ z', l[p].2.2 = z' := ⟨_, rfl⟩
        have hmp : l[p] = (x', y', z') := by rw [← hx', ← hy', ← hz']
        have hlp : l[p + 1 - 1]'(by omega) = (x', y', z') := hmp
        obtain ⟨b', o', hbo, _, g4, g5, g6⟩ := ent_cells (HAT.out.below B) hpl hmp
        obtain ⟨rfl, rfl⟩ := (by simpa using hbo : b = b' ∧ o = o')
        have e1 : IntKind.i64.wrap ((p : Int) + 1 - 1) = (p : Int) := by rw [IntWalk.i64_in _ (by omega)]; omega
        have e2 : IntKind.i64.wrap (p : Int) = (p : Int) := IntWalk.i64_in _ (by omega)
        have e3 : IntKind.i64.wrap (((p + 1 : Nat) : Int) - 1) = (p : Int) := by rw [IntWalk.i64_in _ (by omega)]; omega
        have y5 : (0 : Int) ≤ (p : Int) := by omega
        have y6 : (p : Int) < (n : Int) := by omega
        have y7 : (0 : Int) < (p : Int) + 1 := by omega
        have y8 : (p : Int) + 1 < (n : Int) := by omega
        rw [hlp] at hbad
        have HKS := Lib.hid (show ∀ w', Below (wr.heap.size + 1) (wr.alloc (.cells #[.int .i64 x, .int .i64 y, .int .i64 z] 31)) w' → w'.cell? ⟨b, o + p * 3, none⟩ = some (.int .i64 x') ∧ w'.cell? ⟨b, o + p * 3 + 1, none⟩ = some (.int .i64 y') ∧ w'.cell? ⟨b, o + p * 3 + 2, none⟩ = some (.int .i64 z') ∧ w'.cell? ⟨wr.heap.size, 0, none⟩ = some (.int .i64 x) ∧ w'.cell? ⟨wr.heap.size, 1, none⟩ = some (.int .i64 y) ∧ w'.cell? ⟨wr.heap.size, 2, none⟩ = some (.int .i64 z) from fun w' h => by
          have hB1 := (Below.refl wr.heap.size wr).alloc (Nat.le_refl _) (.cells #[.int .i64 x, .int .i64 y, .int .i64 z] 31)
          have hB2 := hB1.trans (h.mono (Nat.le_succ _))
          have hw : wr.heap.size < wr.heap.size + 1 := Nat.lt_succ_self _
          refine ⟨below_ents hB2 hb9 g4, below_ents hB2 hb9 g5, below_ents hB2 hb9 g6, below_ents h hw ?_, below_ents h hw ?_, below_ents h hw ?_⟩
          · exact cell_of_row _ wr.heap.size 0 _ _ (0, 0) (heap_alloc_new wr _)
          · exact cell_of_row _ wr.heap.size 1 _ _ (0, 0) (heap_alloc_new wr _)
          · exact cell_of_row _ wr.heap.size 2 _ _ (0, 0) (heap_alloc_new wr _))
        have HBW := Lib.hid (show ∀ w', Below (wr.heap.size + 1) (wr.alloc (.cells #[.int .i64 x, .int .i64 y, .int .i64 z] 31)) w' → Below w.heap.size w w' from fun w' h => (B.alloc B.size _).trans (h.mono (Nat.le_trans B.size (Nat.le_succ _))))
        by_cases hless : enLt (x', y', z') (x, y, z)
        · have HN2 := Lib.hid (okTo_next HK.out hkl (by rw [HM.out]; exact hok) (fun h => by rw [hlp, HM.out]; exact hless))
          have c1 := fun w => specLess_is true x' y' z' x y z w ⟨fun _ => hless, fun _ => rfl⟩
          clear hbad hx0 hx1 hy0 hz0 hok hk0 hx' hy' hz' hmp hlp hbo hless
          go_wp2
          go_region_held3 (fun w' => w'.cell? ⟨b, o + p * 3, none⟩ = some (.int .i64 x') ∧ w'.cell? ⟨b, o + p * 3 + 1, none⟩ = some (.int .i64 y') ∧ w'.cell? ⟨b, o + p * 3 + 2, none⟩ = some (.int .i64 z') ∧ w'.cell? ⟨wr.heap.size, 0, none⟩ = some (.int .i64 x) ∧ w'.cell? ⟨wr.heap.size, 1, none⟩ = some (.int .i64 y) ∧ w'.cell? ⟨wr.heap.size, 2, none⟩ = some (.int .i64 z)) (first | go_keep | exact HKS.out _ (Below.trans (by repeat (first | exact Below.refl _ _ | refine Below.drew ?_ | refine below_drewN' ?_ _)) (hb5.mono (by simp))))
            ((go_at_call 101; refine (c1 _).mono ?_; rintro e w5 ⟨rfl, hb5⟩))
          go_wp2
          go_roundw
          case rel => exact ⟨p + 1 + 1, by omega, by go_num, HN2, HBW.out _ (Below.trans (by repeat (first | exact Below.refl _ _ | refine Below.drew ?_ | refine below_drewN' ?_ _)) (hb5.mono (by simp)))⟩
          case measure => simp [intOf]; omega
        · have hf : r = false := hbad (fun h => hless (h.2 (by omega)))
          subst hf
          have c1 := fun w => specLess_is false x' y' z' x y z w ⟨(fun h => absurd h (by decide)), (fun h => absurd h hless)⟩
          clear hbad hx0 hx1 hy0 hz0 hok hk0 hx' hy' hz' hmp hlp hbo hless
          go_wp2
          go_region_held3 (fun w' => w'.cell? ⟨b, o + p * 3, none⟩ = some (.int .i64 x') ∧ w'.cell? ⟨b, o + p * 3 + 1, none⟩ = some (.int .i64 y') ∧ w'.cell? ⟨b, o + p * 3 + 2, none⟩ = some (.int .i64 z') ∧ w'.cell? ⟨wr.heap.size, 0, none⟩ = some (.int .i64 x) ∧ w'.cell? ⟨wr.heap.size, 1, none⟩ = some (.int .i64 y) ∧ w'.cell? ⟨wr.heap.size, 2, none⟩ = some (.int .i64 z)) (first | go_keep | exact HKS.out _ (Below.trans (by repeat (first | exact Below.refl _ _ | refine Below.drew ?_ | refine below_drewN' ?_ _)) (hb5.mono (by simp))))
            ((go_at_call 101; refine (c1 _).mono ?_; rintro e w5 ⟨rfl, hb5⟩))
          go_wp2
          go_ret
          exact ⟨rfl, HBW.out _ (Below.trans (by repeat (first | exact Below.refl _ _ | refine Below.drew ?_ | refine below_drewN' ?_ _)) (hb5.mono (by simp)))⟩
    · have ht : r = true := HRr.out.2 (shOk_of (by have h := HK.out; rwa [show k = l.length by have := HN.out; omega] at h))
      subst ht
      go_wp2
      go_ret
      exact ⟨rfl, B⟩

end Go.Proofs.Ytclblnkeakkdeaa
