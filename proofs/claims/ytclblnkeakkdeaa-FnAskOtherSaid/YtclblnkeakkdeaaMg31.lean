/-
  The contracts of the program's functions EntryLess, isEntry and ShelfOk. Condition: rows have at most 2^22 entries.
-/
import Derived.Test.YtclblnkeakkdeaaMg24
import Derived.Test.YtclblnkeakkdeaaMg17
import Derived.Test.YtclblnkeakkdeaaMg6
namespace Go.Proofs.Ytclblnkeakkdeaa
open Go.RowKit

theorem implLess_any (a b c d e f : Int) (w : World) :
    Calls Try.prog 69 #[.agg #[.int .i64 a, .int .i64 b, .int .i64 c], .agg #[.int .i64 d, .int .i64 e, .int .i64 f]] w fun r w' => r = .returned (.bool (decide (enLt (a, b, c) (d, e, f)))) ∧ Below w.heap.size w w' := by
  by_cases h1 : a = d
  · subst h1
    have t1 : (a == a) = true := beq_self_eq_true _
    have t1' : (a != a) = false := by rw [bne, t1]; rfl
    by_cases h2 : b = e
    · subst h2
      have t2 : (b == b) = true := beq_self_eq_true _
      have t2' : (b != b) = false := by rw [bne, t2]; rfl
      have HD := Lib.hid (show decide (enLt (a, b, c) (a, b, f)) = decide (c < f) from decide_eq_decide.2 (by rw [enLt_iff]; constructor <;> omega))
      go_enter Try.func69, Try.ntmps69
      go_wp2
      go_ret
      exact ⟨by rw [HD.out]; rfl, below_alloc2 _ _ _⟩
    · have t2 : (b == e) = false := by simpa using h2
      have t2' : (b != e) = true := by rw [bne, t2]; rfl
      have HD := Lib.hid (show decide (enLt (a, b, c) (a, e, f)) = decide (b < e) from decide_eq_decide.2 (by rw [enLt_iff]; constructor <;> omega))
      clear h2
      go_enter Try.func69, Try.ntmps69
      go_wp2
      go_ret
      exact ⟨by rw [HD.out]; rfl, below_alloc2 _ _ _⟩
  · have t1 : (a == d) = false := by simpa using h1
    have t1' : (a != d) = true := by rw [bne, t1]; rfl
    have HD := Lib.hid (show decide (enLt (a, b, c) (d, e, f)) = decide (a < d) from decide_eq_decide.2 (by rw [enLt_iff]; constructor <;> omega))
    clear h1
    go_enter Try.func69, Try.ntmps69
    go_wp2
    go_ret
    exact ⟨by rw [HD.out]; rfl, below_alloc2 _ _ _⟩

theorem implLess_is (r : Bool) (a b c d e f : Int) (w : World) (h : r = true ↔ enLt (a, b, c) (d, e, f)) :
    Calls Try.prog 69 #[.agg #[.int .i64 a, .int .i64 b, .int .i64 c], .agg #[.int .i64 d, .int .i64 e, .int .i64 f]] w fun x w' => x = .returned (.bool r) ∧ Below w.heap.size w w' := by
  have e1 : decide (enLt (a, b, c) (d, e, f)) = r := by rw [Bool.eq_iff_iff, decide_eq_true_iff]; exact h.symm
  rw [← e1]
  exact implLess_any a b c d e f w

theorem implIsEntry_is (r : Bool) (x y z : Int) (w : World) (h : r = true ↔ enOk (x, y, z)) :
    Calls Try.prog 68 #[.agg #[.int .i64 x, .int .i64 y, .int .i64 z]] w fun e w' => e = .returned (.bool r) ∧ Below w.heap.size w w' := by
  have h1 : r = true ↔ 0 ≤ x ∧ x < 1000003 ∧ 0 ≤ y ∧ 0 ≤ z := h
  clear h
  by_cases hx : 0 ≤ x ∧ x < 1000003
  · have c1 := fun w => implIsPrint_is true x w (decide_eq_true hx)
    by_cases hy : 0 ≤ y
    · have t2 : decide (0 ≤ y) = true := decide_eq_true hy
      by_cases hz : 0 ≤ z
      · have t3 : decide (0 ≤ z) = true := decide_eq_true hz
        obtain rfl : r = true := h1.2 ⟨hx.1, hx.2, hy, hz⟩
        clear h1 hx
        go_enter Try.func68, Try.ntmps68
        go_wp2_with fail
        refine (c1 _).mono ?_
        rintro e w2 ⟨rfl, rfl⟩
        go_wp2
        go_ret
        exact ⟨rfl, (Below.refl _ _).alloc (Nat.le_refl _) _⟩
      · have t3 : decide (0 ≤ z) = false := decide_eq_false hz
        obtain rfl : r = false := by rw [Bool.eq_false_iff]; intro e; exact hz (h1.1 e).2.2.2
        clear h1 hx
        go_enter Try.func68, Try.ntmps68
        go_wp2_with fail
        refine (c1 _).mono ?_
        rintro e w2 ⟨rfl, rfl⟩
        go_wp2
        go_ret
        exact ⟨rfl, (Below.refl _ _).alloc (Nat.le_refl _) _⟩
    · have t2 : decide (0 ≤ y) = false := decide_eq_false hy
      obtain rfl : r = false := by rw [Bool.eq_false_iff]; intro e; exact hy (h1.1 e).2.2.1
      clear h1 hx
      go_enter Try.func68, Try.ntmps68
      go_wp2_with fail
      refine (c1 _).mono ?_
      rintro e w2 ⟨rfl, rfl⟩
      go_wp2
      go_ret
      exact ⟨rfl, (Below.refl _ _).alloc (Nat.le_refl _) _⟩
  · have c1 := fun w => implIsPrint_is false x w (decide_eq_false hx)
    obtain rfl : r = false := by rw [Bool.eq_false_iff]; intro e; exact hx ⟨(h1.1 e).1, (h1.1 e).2.1⟩
    clear h1 hx
    go_enter Try.func68, Try.ntmps68
    go_wp2_with fail
    refine (c1 _).mono ?_
    rintro e w2 ⟨rfl, rfl⟩
    go_wp2
    go_ret
    exact ⟨rfl, (Below.refl _ _).alloc (Nat.le_refl _) _⟩

set_option maxHeartbeats 4000000 in
theorem implShelfOk_is (r : Bool) (l : List En) (a : Option Addr) (n c : Nat) (w : World) (hr : r = true ↔ shOk l) (hn : n = l.length) (hl : n ≤ 4194304) (hat : CellsAt w a (entsC l)) :
    Calls Try.prog 20 #[.slice a n c] w fun e w' => e = .returned (.bool r) ∧ Below w.heap.size w w' := by
  have HN := Lib.hid hn
  have HRr := Lib.hid hr
  have HAT := Lib.hid hat
  clear hn hr hat
  go_enter Try.func20, Try.ntmps20
  go_wp2
  go_loopw [6] (fun i_ wr => ∃ k : Nat, k ≤ n ∧ i_ = .int .i64 k ∧ Hid (okTo l k) ∧ Below w.heap.size w wr) (fun i_ _ => n - (intOf i_).toNat)
  case atStart => exact ⟨0, Nat.zero_le _, rfl, Lib.hid (okTo_zero l), Below.refl _ _⟩
  case round =>
    obtain ⟨k, hk, rfl, HK, B⟩ := hrel
    by_cases hlt : k < n
    · have hkl : k < l.length := by have := HN.out; omega
      obtain ⟨x, hx⟩ : ∃ x, l[k].1 = x := ⟨_, rfl⟩
      obtain ⟨y, hy⟩ : ∃ y, l[k].2.1 = y := ⟨_, rfl⟩
      obtain ⟨z, hz⟩ : ∃ z, l[k].2.2 = z := ⟨_, rfl⟩
      have hm : l[k] = (x, y, z) := by rw [← hx, ← hy, ← hz]
      obtain ⟨b, o, rfl, hb9, g1, g2, g3⟩ := ent_cells (HAT.out.below B) hkl hm
      have HM := Lib.hid hm
      have z1 : (k : Int) < (n : Int) := by omega
      have z0 : (0 : Int) ≤ (k : Int) := by omega
      clear hx hy hz hm
      have hbad : (¬ (enOk (x, y, z) ∧ (0 < k → enLt (l[k - 1]'(by omega)) (x, y, z)))) → r = false := fun h => by
        rw [Bool.eq_false_iff]
        intro e
        refine shOk_not hkl (fun h2 => h ?_) (HRr.out.1 e)
        rw [HM.out] at h2
        exact h2
      by_cases hok : enOk (x, y, z)
      · have c0 := fun w => implIsEntry_is true x y z w ⟨fun _ => hok, fun _ => rfl⟩
        by_cases hk0 : k = 0
        · have HN2 := Lib.hid (okTo_next HK.out hkl (by rw [HM.out]; exact hok) (fun h => absurd h (by omega)))
          have t0 : decide ((0 : Int) < (k : Int)) = false := decide_eq_false (by omega)
          have t0' : decide (0 < k) = false := decide_eq_false (by omega)
          clear hbad hok hk0
          go_wp2_with fail
          refine (c0 _).mono ?_
          rintro e w2 ⟨rfl, hb2⟩
          have B2 : Below w.heap.size w w2 := B.trans (hb2.mono B.size)
          clear hb2 c0
          go_wp2
          go_quiet (fail)
          go_wp2
          go_roundw
          case rel => exact ⟨k + 1, by omega, by go_num, HN2, below_drewN' B2 _⟩
          case measure => simp [intOf]; omega
        · obtain ⟨p, rfl⟩ : ∃ p, k = p + 1 := ⟨k - 1, by omega⟩
          have hpl : p < l.length := by omega
          obtain ⟨x', hx'⟩ : ∃ x', l[p].1 = x' := ⟨_, rfl⟩
          obtain ⟨y', hy'⟩ : ∃ y', l[p].2.1 = y' := ⟨_, rfl⟩
          obtain ⟨z', hz'⟩ : ∃ z', l[p].2.2 = z' := ⟨_, rfl⟩
          have hmp : l[p] = (x', y', z') := by rw [← hx', ← hy', ← hz']
          have hlp : l[p + 1 - 1]'(by omega) = (x', y', z') := hmp
          obtain ⟨b', o', hbo, _, g4, g5, g6⟩ := ent_cells (HAT.out.below B) hpl hmp
          obtain ⟨rfl, rfl⟩ := (by simpa using hbo : b = b' ∧ o = o')
          have e1 : IntKind.i64.wrap ((p : Int) + 1 - 1) = (p : Int) := by rw [IntWalk.i64_in _ (by omega)]; omega
          have e2 : IntKind.i64.wrap (p : Int) = (p : Int) := IntWalk.i64_in _ (by omega)
          have e3 : IntKind.i64.wrap (((p + 1 : Nat) : Int) - 1) = (p : Int) := by rw [IntWalk.i64_in _ (by omega)]; omega
          have y5 : (0 : Int) ≤ (p : Int) := by omega
          have y6 : (p : Int) < (n : Int) := by omega
          have y7 : (0 : Int) < (p : Int) + 1 := by omega
          have y8 : (p : Int) + 1 < (n : Int) := by omega
          have y9 : (0 : Int) ≤ (p : Int) + 1 := by omega
          have y10 : ((p : Int) + 1).toNat = p + 1 := by omega
          rw [hlp] at hbad
          have HKS := Lib.hid (show ∀ w', Below wr.heap.size wr w' → w'.cell? ⟨b, o + p * 3, none⟩ = some (.int .i64 x') ∧ w'.cell? ⟨b, o + p * 3 + 1, none⟩ = some (.int .i64 y') ∧ w'.cell? ⟨b, o + p * 3 + 2, none⟩ = some (.int .i64 z') ∧ w'.cell? ⟨b, o + (p + 1) * 3, none⟩ = some (.int .i64 x) ∧ w'.cell? ⟨b, o + (p + 1) * 3 + 1, none⟩ = some (.int .i64 y) ∧ w'.cell? ⟨b, o + (p + 1) * 3 + 2, none⟩ = some (.int .i64 z) from fun w' h =>
            ⟨below_ents h hb9 g4, below_ents h hb9 g5, below_ents h hb9 g6, below_ents h hb9 g1, below_ents h hb9 g2, below_ents h hb9 g3⟩)
          by_cases hless : enLt (x', y', z') (x, y, z)
          · have HN2 := Lib.hid (okTo_next HK.out hkl (by rw [HM.out]; exact hok) (fun h => by rw [hlp, HM.out]; exact hless))
            have c1 := fun w => implLess_is true x' y' z' x y z w ⟨fun _ => hless, fun _ => rfl⟩
            clear hbad hok hk0 hx' hy' hz' hmp hlp hbo hless g4 g5 g6
            go_wp2_with fail
            refine (c0 _).mono ?_
            rintro e w2 ⟨rfl, hb2⟩
            have B2 : Below w.heap.size w w2 := B.trans (hb2.mono B.size)
            have HK2 := Lib.hid (show ∀ w', Below w2.heap.size w2 w' → w'.cell? ⟨b, o + p * 3, none⟩ = some (.int .i64 x') ∧ w'.cell? ⟨b, o + p * 3 + 1, none⟩ = some (.int .i64 y') ∧ w'.cell? ⟨b, o + p * 3 + 2, none⟩ = some (.int .i64 z') ∧ w'.cell? ⟨b, o + (p + 1) * 3, none⟩ = some (.int .i64 x) ∧ w'.cell? ⟨b, o + (p + 1) * 3 + 1, none⟩ = some (.int .i64 y) ∧ w'.cell? ⟨b, o + (p + 1) * 3 + 2, none⟩ = some (.int .i64 z) from fun w' h => HKS.out w' (hb2.trans (h.mono hb2.size)))
            obtain ⟨g4, g5, g6, k1, k2, k3⟩ := HK2.out w2 (Below.refl _ _)
            clear hb2 c0 HKS g1 g2 g3
            go_wp2
            go_region_held3 (fun w' => w'.cell? ⟨b, o + p * 3, none⟩ = some (.int .i64 x') ∧ w'.cell? ⟨b, o + p * 3 + 1, none⟩ = some (.int .i64 y') ∧ w'.cell? ⟨b, o + p * 3 + 2, none⟩ = some (.int .i64 z') ∧ w'.cell? ⟨b, o + (p + 1) * 3, none⟩ = some (.int .i64 x) ∧ w'.cell? ⟨b, o + (p + 1) * 3 + 1, none⟩ = some (.int .i64 y) ∧ w'.cell? ⟨b, o + (p + 1) * 3 + 2, none⟩ = some (.int .i64 z)) (first | go_keep | exact HK2.out _ (Below.trans (by repeat (first | exact Below.refl _ _ | refine Below.drew ?_ | refine below_drewN' ?_ _)) (hb5.mono (by simp))))
              ((go_at_call 69; refine (c1 _).mono ?_; rintro e w5 ⟨rfl, hb5⟩))
            go_wp2
            go_roundw
            case rel => exact ⟨p + 1 + 1, by omega, by go_num, HN2, B2.trans ((Below.trans (by repeat (first | exact Below.refl _ _ | refine Below.drew ?_ | refine below_drewN' ?_ _)) (hb5.mono (by simp))).mono B2.size)⟩
            case measure => simp [intOf]; omega
          · have hf : r = false := hbad (fun h => hless (h.2 (by omega)))
            subst hf
            have c1 := fun w => implLess_is false x' y' z' x y z w ⟨(fun h => absurd h (by decide)), (fun h => absurd h hless)⟩
            clear hbad hok hk0 hx' hy' hz' hmp hlp hbo hless g4 g5 g6
            go_wp2_with fail
            refine (c0 _).mono ?_
            rintro e w2 ⟨rfl, hb2⟩
            have B2 : Below w.heap.size w w2 := B.trans (hb2.mono B.size)
            have HK2 := Lib.hid (show ∀ w', Below w2.heap.size w2 w' → w'.cell? ⟨b, o + p * 3, none⟩ = some (.int .i64 x') ∧ w'.cell? ⟨b, o + p * 3 + 1, none⟩ = some (.int .i64 y') ∧ w'.cell? ⟨b, o + p * 3 + 2, none⟩ = some (.int .i64 z') ∧ w'.cell? ⟨b, o + (p + 1) * 3, none⟩ = some (.int .i64 x) ∧ w'.cell? ⟨b, o + (p + 1) * 3 + 1, none⟩ = some (.int .i64 y) ∧ w'.cell? ⟨b, o + (p + 1) * 3 + 2, none⟩ = some (.int .i64 z) from fun w' h => HKS.out w' (hb2.trans (h.mono hb2.size)))
            obtain ⟨g4, g5, g6, k1, k2, k3⟩ := HK2.out w2 (Below.refl _ _)
            clear hb2 c0 HKS g1 g2 g3
            go_wp2
            go_region_held3 (fun w' => w'.cell? ⟨b, o + p * 3, none⟩ = some (.int .i64 x') ∧ w'.cell? ⟨b, o + p * 3 + 1, none⟩ = some (.int .i64 y') ∧ w'.cell? ⟨b, o + p * 3 + 2, none⟩ = some (.int .i64 z') ∧ w'.cell? ⟨b, o + (p + 1) * 3, none⟩ = some (.int .i64 x) ∧ w'.cell? ⟨b, o + (p + 1) * 3 + 1, none⟩ = some (.int .i64 y) ∧ w'.cell? ⟨b, o + (p + 1) * 3 + 2, none⟩ = some (.int .i64 z)) (first | go_keep | exact HK2.out _ (Below.trans (by repeat (first | exact Below.refl _ _ | refine Below.drew ?_ | refine below_drewN' ?_ _)) (hb5.mono (by simp))))
              ((go_at_call 69; refine (c1 _).mono ?_; rintro e w5 ⟨rfl, hb5⟩))
            go_wp2
            go_ret
            exact ⟨rfl, B2.trans ((Below.trans (by repeat (first | exact Below.refl _ _ | refine Below.drew ?_ | refine below_drewN' ?_ _)) (hb5.mono (by simp))).mono B2.size)⟩
      · have hf : r = false := hbad (fun h => hok h.1)
        subst hf
        have c0 := fun w => implIsEntry_is false x y z w ⟨(fun h => absurd h (by decide)), (fun h => absurd h hok)⟩
        clear hbad hok
        go_wp2_with fail
        refine (c0 _).mono ?_
        rintro e w2 ⟨rfl, hb2⟩
        have B2 : Below w.heap.size w w2 := B.trans (hb2.mono B.size)
        clear hb2 c0
        go_wp2
        go_ret
        exact ⟨rfl, B2⟩
    · have ht : r = true := HRr.out.2 (shOk_of (by have h := HK.out; rwa [show k = l.length by have := HN.out; omega] at h))
      subst ht
      go_wp2
      go_ret
      exact ⟨rfl, B⟩

end Go.Proofs.Ytclblnkeakkdeaa
