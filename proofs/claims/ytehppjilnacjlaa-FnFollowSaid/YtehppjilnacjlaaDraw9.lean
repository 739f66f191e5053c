/-
  What chapter 9's draws can be: short texts. No conditions.
-/
import Derived.Test.YtehppjilnacjlaaDrawV
namespace Go.Proofs.Ytehppjilnacjlaa
open Go.RowKit

theorem Try.uls9 : Try.prog.underlying 9 = some .string := by kernel_rfl
theorem below_pick9 {w0 w w' : World} {B g : Nat} (h : Below B w0 w) (hs : B ≤ w.heap.size) (hg : w.grownBy w' (some g)) (hB : B ≤ g) : Below B w0 w' := h.grown hg hs (fun k hk => by simp at hk; omega)

theorem DrawMachineOf_any (w : World) (a : Option Addr) (len cap : Nat) (zs : List Int) (h : IsRowK .u8 w a len cap zs) :
    Calls Try.prog 14 #[.slice a len cap] w fun e w' => ∃ t : ByteArray, t.size ≤ 1000 ∧ e = .returned (.string t) ∧ Below w.heap.size w w' := by
  go_enter Try.func14, Try.ntmps14
  go_wp2_with fail
  refine (open_any _ _ _ _ _ h).mono ?_
  rintro e w1 ⟨n, rfl, hrd, hb, hs⟩
  go_wp2_with fail
  refine (short_any _ _ a n cap 0 14 (by omega) (by omega) hrd).mono ?_
  rintro e w2 ⟨t, ht, rfl, _, hg⟩
  have hB := below_rdD hb hs hg
  clear hg hrd h hb hs
  go_wp2
  go_ret
  exact ⟨t, by omega, rfl, hB⟩

theorem DrawCountPieces_any (w : World) (a : Option Addr) (len cap : Nat) (zs : List Int) (h : IsRowK .u8 w a len cap zs) :
    Calls Try.prog 26 #[.slice a len cap] w fun e w' => ∃ t : ByteArray, t.size ≤ 1000 ∧ e = .returned (.string t) ∧ Below w.heap.size w w' := by
  go_enter Try.func26, Try.ntmps26
  go_wp2_with fail
  refine (open_any _ _ _ _ _ h).mono ?_
  rintro e w1 ⟨n, rfl, hrd, hb, hs⟩
  go_wp2_with fail
  refine (short_any _ _ a n cap 0 14 (by omega) (by omega) hrd).mono ?_
  rintro e w2 ⟨t, ht, rfl, _, hg⟩
  have hB := below_rdD hb hs hg
  clear hg hrd h hb hs
  go_wp2
  go_ret
  exact ⟨t, by omega, rfl, hB⟩

theorem DrawLongestEnds_any (w : World) (a : Option Addr) (len cap : Nat) (zs : List Int) (h : IsRowK .u8 w a len cap zs) :
    Calls Try.prog 29 #[.slice a len cap] w fun e w' => ∃ t u : ByteArray, t.size ≤ 1000 ∧ u.size ≤ 1000 ∧ e = .returned (.tuple #[.string t, .string u]) ∧ Below w.heap.size w w' := by
  go_enter Try.func29, Try.ntmps29
  go_wp2_with fail
  refine (open_any _ _ _ _ _ h).mono ?_
  rintro e w1 ⟨n, rfl, hrd, hb, hs⟩
  go_wp2_with fail
  refine (two_any _ _ a n cap 0 (by omega) hrd).mono ?_
  rintro e w2 ⟨t, u, ht, hu, rfl, _, hg⟩
  have hB := below_rdD hb hs hg
  clear hg hrd h hb hs
  go_wp2
  (try simp only [Exit.inBlock, Exit.then]); refine bodyPost_ret (results_two7 rfl _ _ _) rfl ?_
  exact ⟨t, u, by omega, by omega, rfl, hB⟩

set_option maxHeartbeats 4000000 in
theorem DrawHasPiece_any (w : World) (a : Option Addr) (len cap : Nat) (zs : List Int) (h : IsRowK .u8 w a len cap zs) :
    Calls Try.prog 22 #[.slice a len cap] w fun e w' => ∃ t u : ByteArray, t.size ≤ 1000 ∧ u.size ≤ 1000 ∧ e = .returned (.tuple #[.string t, .string u]) ∧ Below w.heap.size w w' := by
  go_enter Try.func22, Try.ntmps22
  go_wp2_with fail
  refine (open_any _ _ _ _ _ h).mono ?_
  rintro e w1 ⟨n, rfl, hrd, hb, hs⟩
  go_wp2_with fail
  refine (short_any _ _ a n cap 0 14 (by omega) (by omega) hrd).mono ?_
  rintro e w2 ⟨t, ht, rfl, hrd2, hg⟩
  have hB := below_rdD hb hs hg
  clear hg hrd h
  go_wp2_with fail
  refine (short_any _ _ a n cap _ 4 (by omega) (by omega) hrd2).mono ?_
  rintro e w3 ⟨u, hu, rfl, hrd3, hg3⟩
  have hB3 : Below w.heap.size w w3 := hB.grown hg3 hB.size (fun k hk => by simp at hk; omega)
  clear hg3 hrd2 hB
  by_cases h0 : 0 < t.size
  · go_wp2_with fail
    refine (pick_pos _ _ a n cap _ 3 (by omega) hrd3 (by omega) (by omega)).mono ?_
    rintro e w4 ⟨q, hq, rfl, hrd4, hg4⟩
    have hB4 : Below w.heap.size w w4 := hB3.grown hg4 hB3.size (fun k hk => by simp at hk; omega)
    clear hg4 hrd3 hB3
    by_cases hq0 : 0 < q
    · go_wp2_with fail
      refine (pick_pos _ _ a n cap _ (t.size : Int) (by omega) hrd4 (by omega) (by omega)).mono ?_
      rintro e w5 ⟨f, hf, rfl, hrd5, hg5⟩
      have hB5 : Below w.heap.size w w5 := hB4.grown hg5 hB4.size (fun k hk => by simp at hk; omega)
      clear hg5 hrd4 hB4
      go_wp2_with fail
      refine (pick_pos _ _ a n cap _ ((t.size : Int) - (f : Int) + 1) (by omega) hrd5 (by omega) (by omega)).mono ?_
      rintro e w6 ⟨m, hm, rfl, hrd6, hg6⟩
      have hB6 : Below w.heap.size w w6 := hB5.grown hg6 hB5.size (fun k hk => by simp at hk; omega)
      clear hg6 hrd5 hB5 hb hs
      have hfm : f + m ≤ t.size := by omega
      have sl1 : ∀ w, (Instr.slice 9 (.string t) (some (.int .i64 f)) (some (.int .i64 ((f : Int) + (m : Int)))) none).run Try.prog w = .ok (.string (t.extract f (f + m))) w := fun w => by
        have := run_slice_string (P := Try.prog) w 9 t .i64 .i64 f ((f : Int) + (m : Int)) Try.uls9 (by omega) (by omega) (by omega)
        rwa [Int.toNat_natCast, show ((f : Int) + (m : Int)).toNat = f + m by omega] at this
      have hxs : (t.extract f (f + m)).size ≤ 14 := by simp only [ByteArray.size_extract]; omega
      obtain ⟨x, hx⟩ : ∃ x, t.extract f (f + m) = x := ⟨_, rfl⟩
      rw [hx] at sl1 hxs
      clear hx
      go_wp2_with fail
      refine (pick_pos _ _ a n cap _ 4 (by omega) hrd6 (by omega) (by omega)).mono ?_
      rintro e w7 ⟨z, hz, rfl, _, hg7⟩
      have hB7 : Below w.heap.size w w7 := hB6.grown hg7 hB6.size (fun k hk => by simp at hk; omega)
      clear hg7 hrd6 hB6 sl1
      by_cases hz0 : z = 0
      · subst hz0
        have hxa : (x ++ ({ data := #[97] } : ByteArray)).size ≤ 15 := by rw [size_append]; have : ({ data := #[97] } : ByteArray).size = 1 := rfl; omega
        obtain ⟨y, hy⟩ : ∃ y, x ++ ({ data := #[97] } : ByteArray) = y := ⟨_, rfl⟩
        have HY := Lib.hid hy
        rw [hy] at hxa
        clear hy
        go_wp2
        rw [HY.out]
        (try simp only [Exit.inBlock, Exit.then]); refine bodyPost_ret (results_two7 rfl _ _ _) rfl ?_
        exact ⟨t, y, by omega, by omega, rfl, hB7⟩
      · have t0 : ((z : Int) == 0) = false := by simp; omega
        go_wp2
        (try simp only [Exit.inBlock, Exit.then]); refine bodyPost_ret (results_two7 rfl _ _ _) rfl ?_
        exact ⟨t, x, by omega, by omega, rfl, hB7⟩
    · have t0 : ¬ ((q : Int) > 0) := by omega
      clear hrd4 hb hs
      go_wp2
      (try simp only [Exit.inBlock, Exit.then]); refine bodyPost_ret (results_two7 rfl _ _ _) rfl ?_
      exact ⟨t, u, by omega, by omega, rfl, hB4⟩
  · clear hrd3 hb hs
    go_wp2
    (try simp only [Exit.inBlock, Exit.then]); refine bodyPost_ret (results_two7 rfl _ _ _) rfl ?_
    exact ⟨t, u, by omega, by omega, rfl, hB3⟩

theorem DrawHowOften_any (w : World) (a : Option Addr) (len cap : Nat) (zs : List Int) (h : IsRowK .u8 w a len cap zs) :
    Calls Try.prog 34 #[.slice a len cap] w fun e w' => ∃ t u : ByteArray, t.size ≤ 1000 ∧ u.size ≤ 1000 ∧ e = .returned (.tuple #[.string t, .string u]) ∧ Below w.heap.size w w' := by
  go_enter Try.func34, Try.ntmps34
  go_wp2_with fail
  refine (DrawHasPiece_any _ _ _ _ _ h).mono ?_
  rintro e w1 ⟨t, u, ht, hu, rfl, hB⟩
  clear h
  go_wp2
  (try simp only [Exit.inBlock, Exit.then]); refine bodyPost_ret (results_two7 rfl _ _ _) rfl ?_
  exact ⟨t, u, ht, hu, rfl, hB⟩

end Go.Proofs.Ytehppjilnacjlaa
