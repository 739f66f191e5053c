/-
  The contracts of the model's draws of chapter 3: they return texts of at most 1000 bytes, and numbers; nothing that was there is written. Condition: the bytes can be read.
-/
import Derived.Test.YtpheiapnhgllnaaRdShort
namespace Go.Proofs.Ytpheiapnhgllnaa
open Go.RowKit

theorem below_rdC {w w1 w2 : World} (hb : Below w.heap.size w w1) (hs : w1.heap.size = w.heap.size + 1) (hg : w1.grownBy w2 (some w.heap.size)) : Below w.heap.size w w2 :=
  hb.grown hg (by omega) (fun k hk => by simp at hk; omega)

theorem DrawPrintOf_any (w : World) (a : Option Addr) (len cap : Nat) (zs : List Int) (h : IsRowK .u8 w a len cap zs) :
    Calls Try.prog 10 #[.slice a len cap] w fun e w' => ∃ t : ByteArray, t.size ≤ 1000 ∧ e = .returned (.string t) ∧ Below w.heap.size w w' := by
  go_enter Try.func10, Try.ntmps10
  go_wp2_with fail
  refine (open_any _ _ _ _ _ h).mono ?_
  rintro e w1 ⟨n, rfl, hrd, hb, hs⟩
  go_wp2_with fail
  refine (text_any _ _ a n cap 0 6 (by omega) (by omega) hrd).mono ?_
  rintro e w2 ⟨t, ht, rfl, _, hg⟩
  have hB := below_rdC hb hs hg
  clear hg hb hs hrd h
  go_wp2
  go_ret
  exact ⟨t, by omega, rfl, hB⟩

theorem DrawJoinedPrints_any (w : World) (a : Option Addr) (len cap : Nat) (zs : List Int) (h : IsRowK .u8 w a len cap zs) :
    Calls Try.prog 24 #[.slice a len cap] w fun e w' => ∃ t u : ByteArray, t.size ≤ 500 ∧ u.size ≤ 500 ∧ e = .returned (.tuple #[.string t, .string u]) ∧ Below w.heap.size w w' := by
  go_enter Try.func24, Try.ntmps24
  go_wp2_with fail
  refine (open_any _ _ _ _ _ h).mono ?_
  rintro e w1 ⟨n, rfl, hrd, hb, hs⟩
  go_wp2_with fail
  refine (text_any _ _ a n cap 0 4 (by omega) (by omega) hrd).mono ?_
  rintro e w2 ⟨t, ht, rfl, hrd2, hg⟩
  have hB := below_rdC hb hs hg
  clear hg hrd h
  go_wp2_with fail
  refine (text_any _ _ a n cap _ 4 (by omega) (by omega) hrd2).mono ?_
  rintro e w3 ⟨u, hu, rfl, _, hg3⟩
  have hB3 : Below w.heap.size w w3 := hB.grown hg3 hB.size (fun k hk => by simp at hk; omega)
  clear hg3 hrd2 hb hs hB
  go_wp2
  go_ret2
  exact ⟨t, u, by omega, by omega, rfl, hB3⟩

theorem DrawRolled_any (w : World) (a : Option Addr) (len cap : Nat) (zs : List Int) (h : IsRowK .u8 w a len cap zs) :
    Calls Try.prog 21 #[.slice a len cap] w fun e w' => ∃ (t : ByteArray) (r : Nat), t.size ≤ 500 ∧ r ≤ 255 ∧ e = .returned (.tuple #[.string (({ data := #[113] } : ByteArray) ++ t), .int .i64 r]) ∧ Below w.heap.size w w' := by
  go_enter Try.func21, Try.ntmps21
  go_wp2_with fail
  refine (open_any _ _ _ _ _ h).mono ?_
  rintro e w1 ⟨n, rfl, hrd, hb, hs⟩
  go_wp2_with fail
  refine (text_any _ _ a n cap 0 3 (by omega) (by omega) hrd).mono ?_
  rintro e w2 ⟨t, ht, rfl, hrd2, hg⟩
  have hB := below_rdC hb hs hg
  clear hg hrd h
  go_wp2_with fail
  refine (pick_pos _ _ a n cap _ 256 (by omega) hrd2 (by omega) (by omega)).mono ?_
  rintro e w3 ⟨r, hr, rfl, _, hg3⟩
  have hB3 : Below w.heap.size w w3 := hB.grown hg3 hB.size (fun k hk => by simp at hk; omega)
  clear hg3 hrd2 hb hs hB
  go_wp2
  go_ret2
  exact ⟨t, r, by omega, by omega, rfl, hB3⟩

theorem DrawPrintsOf_any (w : World) (a : Option Addr) (len cap : Nat) (zs : List Int) (h : IsRowK .u8 w a len cap zs) :
    Calls Try.prog 17 #[.slice a len cap] w fun e w' => ∃ (t : ByteArray) (k : Int), t.size ≤ 500 ∧ -1000 ≤ k ∧ k ≤ 1000 ∧ e = .returned (.tuple #[.string t, .int .i64 k]) ∧ Below w.heap.size w w' := by
  go_enter Try.func17, Try.ntmps17
  go_wp2_with fail
  refine (open_any _ _ _ _ _ h).mono ?_
  rintro e w1 ⟨n, rfl, hrd, hb, hs⟩
  go_wp2_with fail
  refine (short_any _ _ a n cap 0 30 (by omega) (by omega) hrd).mono ?_
  rintro e w2 ⟨t, ht, rfl, hrd2, hg⟩
  have hB := below_rdC hb hs hg
  clear hg hrd h
  go_wp2_with fail
  refine (pick_pos _ _ a n cap _ 9 (by omega) hrd2 (by omega) (by omega)).mono ?_
  rintro e w3 ⟨r, hr, rfl, hrd3, hg3⟩
  have hB3 : Below w.heap.size w w3 := hB.grown hg3 hB.size (fun k hk => by simp at hk; omega)
  clear hg3 hrd2
  go_wp2_with fail
  refine (pick_pos _ _ a n cap _ 8 (by omega) hrd3 (by omega) (by omega)).mono ?_
  rintro e w4 ⟨q, hq, rfl, _, hg4⟩
  have hB4 : Below w.heap.size w w4 := hB3.grown hg4 hB3.size (fun k hk => by simp at hk; omega)
  clear hg4 hrd3 hb hs hB hB3
  have e1 : (q : Int).tdiv 7 = ((q / 7 : Nat) : Int) := (Int.ofNat_tdiv q 7).symm
  obtain ⟨d, hd⟩ : ∃ d, q / 7 = d := ⟨_, rfl⟩
  rw [hd] at e1
  have hd1 : d ≤ 1 := by omega
  clear hd
  go_wp2
  go_ret2
  exact ⟨t, (r : Int) - (d : Int) * 2, by omega, by omega, by omega, rfl, hB4⟩

set_option maxHeartbeats 1000000 in
theorem DrawFindPrint_any (w : World) (a : Option Addr) (len cap : Nat) (zs : List Int) (h : IsRowK .u8 w a len cap zs) :
    Calls Try.prog 26 #[.slice a len cap] w fun e w' => ∃ t u : ByteArray, t.size ≤ 500 ∧ u.size ≤ 500 ∧ e = .returned (.tuple #[.string t, .string u]) ∧ Below w.heap.size w w' := by
  go_enter Try.func26, Try.ntmps26
  go_wp2_with fail
  refine (open_any _ _ _ _ _ h).mono ?_
  rintro e w1 ⟨n, rfl, hrd, hb, hs⟩
  go_wp2_with fail
  refine (short_any _ _ a n cap 0 30 (by omega) (by omega) hrd).mono ?_
  rintro e w2 ⟨t, ht, rfl, hrd2, hg⟩
  have hB := below_rdC hb hs hg
  clear hg hrd h
  go_wp2_with fail
  refine (short_any _ _ a n cap _ 3 (by omega) (by omega) hrd2).mono ?_
  rintro e w3 ⟨u, hu, rfl, hrd3, hg3⟩
  have hB3 : Below w.heap.size w w3 := hB.grown hg3 hB.size (fun k hk => by simp at hk; omega)
  clear hg3 hrd2 hB
  by_cases h0 : 0 < t.size
  · go_wp2_with fail
    refine (pick_pos _ _ a n cap _ 2 (by omega) hrd3 (by omega) (by omega)).mono ?_
    rintro e w4 ⟨q, hq, rfl, hrd4, hg4⟩
    have hB4 : Below w.heap.size w w4 := hB3.grown hg4 hB3.size (fun k hk => by simp at hk; omega)
    clear hg4 hrd3 hB3
    by_cases hq0 : q = 0
    · subst hq0
      go_wp2_with fail
      refine (pick_pos _ _ a n cap _ (t.size : Int) (by omega) hrd4 (by omega) (by omega)).mono ?_
      rintro e w5 ⟨f, hf, rfl, hrd5, hg5⟩
      have hB5 : Below w.heap.size w w5 := hB4.grown hg5 hB4.size (fun k hk => by simp at hk; omega)
      clear hg5 hrd4 hB4
      go_wp2_with fail
      · refine (pick_pos _ _ a n cap _ ((t.size : Int) - (f : Int) + 1) (by omega) hrd5 (by omega) (by omega)).mono ?_
        rintro e w6 ⟨m, hm, rfl, _, hg6⟩
        have hB6 : Below w.heap.size w w6 := hB5.grown hg6 hB5.size (fun k hk => by simp at hk; omega)
        clear hg6 hrd5 hB5 hb hs
        have hfm : f + m ≤ t.size := by omega
        have sl1 : ∀ w, (Instr.slice 9 (.string t) (some (.int .i64 f)) (some (.int .i64 ((f : Int) + (m : Int)))) none).run Try.prog w = .ok (.string (t.extract f (f + m))) w := fun w => by
          have := run_slice_string (P := Try.prog) w 9 t .i64 .i64 f ((f : Int) + (m : Int)) Try.uls3 (by omega) (by omega) (by omega)
          rwa [Int.toNat_natCast, show ((f : Int) + (m : Int)).toNat = f + m by omega] at this
        go_wp2
        go_ret2
        exact ⟨t, t.extract f (f + m), by omega, by simp only [ByteArray.size_extract]; omega, by rfl, hB6⟩
      · refine (pick_pos _ _ a n cap _ 5 (by omega) hrd5 (by omega) (by omega)).mono ?_
        rintro e w6 ⟨m, hm, rfl, _, hg6⟩
        have hB6 : Below w.heap.size w w6 := hB5.grown hg6 hB5.size (fun k hk => by simp at hk; omega)
        clear hg6 hrd5 hB5 hb hs
        have hfm : f + m ≤ t.size := by omega
        have sl1 : ∀ w, (Instr.slice 9 (.string t) (some (.int .i64 f)) (some (.int .i64 ((f : Int) + (m : Int)))) none).run Try.prog w = .ok (.string (t.extract f (f + m))) w := fun w => by
          have := run_slice_string (P := Try.prog) w 9 t .i64 .i64 f ((f : Int) + (m : Int)) Try.uls3 (by omega) (by omega) (by omega)
          rwa [Int.toNat_natCast, show ((f : Int) + (m : Int)).toNat = f + m by omega] at this
        go_wp2
        go_ret2
        exact ⟨t, t.extract f (f + m), by omega, by simp only [ByteArray.size_extract]; omega, by rfl, hB6⟩
    · have t0 : ((q : Int) == 0) = false := by simp; omega
      clear hrd4 hb hs
      go_wp2
      go_ret2
      exact ⟨t, u, by omega, by omega, rfl, hB4⟩
  · clear hrd3 hb hs
    go_wp2
    go_ret2
    exact ⟨t, u, by omega, by omega, rfl, hB3⟩

end Go.Proofs.Ytpheiapnhgllnaa
