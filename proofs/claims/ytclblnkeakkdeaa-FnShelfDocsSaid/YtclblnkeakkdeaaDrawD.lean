/-
  The contracts of the model's draws of chapter 4: texts of at most 500 bytes, and small numbers; nothing that was there is written. Condition: the bytes can be read.
-/
import Derived.Test.YtclblnkeakkdeaaRdShort
import Derived.OwnWalk
namespace Go.Proofs.Ytclblnkeakkdeaa
open Go.RowKit

theorem Try.ulID : Try.prog.underlying 33 = some (.slice 3) := by kernel_rfl
theorem Try.infoID : (Try.prog.info? 3).map (fun i => (i.zero, i.size, i.bytes)) = some (some (.int .i64 0), 1, 8) := by kernel_rfl

theorem results_four {fn : Func} {t u v x : Tmp} (h : fn.results = #[.tmp t, .tmp u, .tmp v, .tmp x]) (tmps : Array Value) (P : Program) (w : World) :
    (results fn tmps).run P w = .ok (.tuple #[tmps.getD t undef, tmps.getD u undef, tmps.getD v undef, tmps.getD x undef]) w := by
  simp [results, h]

theorem below_rdD {w w1 w2 : World} (hb : Below w.heap.size w w1) (hs : w1.heap.size = w.heap.size + 1) (hg : w1.grownBy w2 (some w.heap.size)) : Below w.heap.size w w2 :=
  hb.grown hg (by omega) (fun k hk => by simp at hk; omega)

theorem sizes_any (w : World) (g : Nat) (a : Option Addr) (n c B : Nat) (hB : B < 100000) (h : RdAt w g a n c B) :
    Calls Try.prog 79 #[.pointer (some ⟨g, 0, none⟩)] w fun e w' => ∃ k v : Int, -1 ≤ k ∧ k ≤ 4 ∧ -1 ≤ v ∧ v ≤ 5 ∧ e = .returned (.tuple #[.int .i64 k, .int .i64 v]) ∧ RdAt w' g a n c (B + 4) ∧ w.grownBy w' (some g) := by
  go_enter Try.func79, Try.ntmps79
  go_wp2_with fail
  refine (pick_pos _ g a n c B 4 (by omega) h (by omega) (by omega)).mono ?_
  rintro e w1 ⟨r1, hr1, rfl, h1, g1⟩
  go_wp2_with fail
  refine (pick_pos _ g a n c _ 16 (by omega) h1 (by omega) (by omega)).mono ?_
  rintro e w2 ⟨r2, hr2, rfl, h2, g2⟩
  have G2 := grownBy_trans g1 g2
  clear h1 g1 g2
  have e2 : (r2 : Int).tdiv 15 = ((r2 / 15 : Nat) : Int) := (Int.ofNat_tdiv r2 15).symm
  obtain ⟨d2, hd2⟩ : ∃ d, r2 / 15 = d := ⟨_, rfl⟩
  rw [hd2] at e2
  have hd21 : d2 ≤ 1 := by omega
  clear hd2
  go_wp2_with fail
  refine (pick_pos _ g a n c _ 5 (by omega) h2 (by omega) (by omega)).mono ?_
  rintro e w3 ⟨r3, hr3, rfl, h3, g3⟩
  have G3 := grownBy_trans G2 g3
  clear h2 g3 G2
  go_wp2_with fail
  refine (pick_pos _ g a n c _ 16 (by omega) h3 (by omega) (by omega)).mono ?_
  rintro e w4 ⟨r4, hr4, rfl, h4, g4⟩
  have G4 := grownBy_trans G3 g4
  clear h3 g4 G3
  have e4 : (r4 : Int).tdiv 15 = ((r4 / 15 : Nat) : Int) := (Int.ofNat_tdiv r4 15).symm
  obtain ⟨d4, hd4⟩ : ∃ d, r4 / 15 = d := ⟨_, rfl⟩
  rw [hd4] at e4
  have hd41 : d4 ≤ 1 := by omega
  clear hd4
  go_wp2
  go_ret2
  exact ⟨_, _, by omega, by omega, by omega, by omega, rfl, h4.more (by omega), G4⟩




set_option maxHeartbeats 2000000 in
theorem copy_any (w : World) (g : Nat) (a : Option Addr) (n c B : Nat) (s : ByteArray) (most : Nat) (hm : most ≤ 100) (hs : s.size ≤ 500) (hB : B < 90000) (h : RdAt w g a n c B) :
    Calls Try.prog 95 #[.pointer (some ⟨g, 0, none⟩), .string s, .int .i64 most] w fun e w' => ∃ t : ByteArray, t.size ≤ most + s.size ∧ e = .returned (.string t) ∧ RdAt w' g a n c (B + 200) ∧ w.grownBy w' (some g) := by
  go_enter Try.func95, Try.ntmps95
  go_wp2_with fail
  refine (short_any _ g a n c B most (by omega) (by omega) h).mono ?_
  rintro e w1 ⟨t, ht, rfl, h1, g1⟩
  by_cases h0 : 0 < s.size
  · have h0i : (0 : Int) < s.size := by omega
    go_wp2_with fail
    refine (pick_pos _ g a n c _ 4 (by omega) h1 (by omega) (by omega)).mono ?_
    rintro e w2 ⟨q, hq, rfl, h2, g2⟩
    have G2 := grownBy_trans g1 g2
    clear h1 g1 g2
    by_cases hq0 : 0 < q
    · have hq0i : (0 : Int) < (q : Int) := by omega
      go_wp2_with fail
      refine (pick_pos _ g a n c _ (s.size : Int) (by omega) h2 (by omega) (by omega)).mono ?_
      rintro e w3 ⟨f, hf, rfl, h3, g3⟩
      have G3 := grownBy_trans G2 g3
      clear h2 g3 G2
      go_wp2_with fail
      refine (pick_pos _ g a n c _ ((s.size : Int) - (f : Int) + 1) (by omega) h3 (by omega) (by omega)).mono ?_
      rintro e w4 ⟨m, hm4, rfl, h4, g4⟩
      have G4 := grownBy_trans G3 g4
      clear h3 g4 G3
      go_wp2_with fail
      refine (pick_pos _ g a n c _ ((t.size : Int) + 1) (by omega) h4 (by omega) (by omega)).mono ?_
      rintro e w5 ⟨i, hi, rfl, h5, g5⟩
      have G5 := grownBy_trans G4 g5
      clear h4 g5 G4
      have s1 : (0 : Int) ≤ (i : Int) := by omega
      have s2 : (i : Int) ≤ (t.size : Int) := by omega
      have s3 : (0 : Int) ≤ (f : Int) := by omega
      have s4 : (f : Int) ≤ (f : Int) + (m : Int) := by omega
      have s5 : (f : Int) + (m : Int) ≤ (s.size : Int) := by omega
      have sl1 : ∀ w, (Instr.slice 9 (.string s) (some (.int .i64 f)) (some (.int .i64 ((f : Int) + (m : Int)))) none).run Try.prog w = .ok (.string (s.extract f (f + m))) w := fun w => by
        have := run_slice_string (P := Try.prog) w 9 s .i64 .i64 f ((f : Int) + (m : Int)) Try.uls3 (by omega) (by omega) (by omega)
        rwa [Int.toNat_natCast, show ((f : Int) + (m : Int)).toNat = f + m by omega] at this
      have hsz : (t.extract 0 i ++ s.extract f (f + m) ++ t.extract i t.size).size ≤ most + s.size := by
        simp only [size_append, ByteArray.size_extract]; omega
      have H5 := Lib.hid h5
      have HG := Lib.hid G5
      clear h5 G5
      go_wp2
      go_quiet (fail)
      go_wp2
      go_ret
      exact ⟨_, hsz, rfl, by refine RdAt.more (RdAt.kept H5.out (fun _ _ => rfl)) ?_; omega, ⟨HG.out.os, HG.out.tape, HG.out.output, HG.out.size, HG.out.block⟩⟩
    · have hq0i : ¬ (0 : Int) < (q : Int) := by omega
      go_wp2
      go_ret
      exact ⟨t, by omega, rfl, h2.more (by omega), G2⟩
  · have h0i : ¬ (0 : Int) < s.size := by omega
    go_wp2
    go_ret
    exact ⟨t, by omega, rfl, h1.more (by omega), g1⟩



end Go.Proofs.Ytclblnkeakkdeaa
