/-
  The contracts of the model's draws of chapter 4: texts of at most 500 bytes, and small numbers; nothing that was there is written. Condition: the bytes can be read.
-/
import Derived.Test.YteieolkpmjoohaaRdShort
import Derived.OwnWalk
namespace Go.Proofs.Yteieolkpmjoohaa
open Go.RowKit

theorem Try.ulID : Try.prog.underlying 50 = some (.slice 3) := by kernel_rfl
theorem Try.infoID : (Try.prog.info? 3).map (fun i => (i.zero, i.size, i.bytes)) = some (some (.int .i64 0), 1, 8) := by kernel_rfl

theorem results_four {fn : Func} {t u v x : Tmp} (h : fn.results = #[.tmp t, .tmp u, .tmp v, .tmp x]) (tmps : Array Value) (P : Program) (w : World) :
    (results fn tmps).run P w = .ok (.tuple #[tmps.getD t undef, tmps.getD u undef, tmps.getD v undef, tmps.getD x undef]) w := by
  simp [results, h]

theorem below_rdD {w w1 w2 : World} (hb : Below w.heap.size w w1) (hs : w1.heap.size = w.heap.size + 1) (hg : w1.grownBy w2 (some w.heap.size)) : Below w.heap.size w w2 :=
  hb.grown hg (by omega) (fun k hk => by simp at hk; omega)

theorem sizes_any (w : World) (g : Nat) (a : Option Addr) (n c B : Nat) (hB : B < 100000) (h : RdAt w g a n c B) :
    Calls Try.prog 54 #[.pointer (some ⟨g, 0, none⟩)] w fun e w' => ∃ k v : Int, -1 ≤ k ∧ k ≤ 4 ∧ -1 ≤ v ∧ v ≤ 5 ∧ e = .returned (.tuple #[.int .i64 k, .int .i64 v]) ∧ RdAt w' g a n c (B + 4) ∧ w.grownBy w' (some g) := by
  go_enter Try.func54, Try.ntmps54
  go_wp2_with fail
  refine (pick_pos _ g a n c B 4 (by omega) h (by omega) (by omega)).mono ?_
  rintro e w1 ⟨r1, hr1, rfl, h1, g1⟩
  go_wp2_with fail
  refine (pick_pos _ g a n c _ 16 (by omega) h1 (by omega) (by omega)).mono ?_
  rintro e w2 ⟨r2, hr2, rfl, h2, g2⟩
  have G2 := grownBy_trans g1 g2
  clear h1 g1 g2
  have e2 : (r2 : Int).tdiv 15 = ((r2 / 15 : Nat) : Int) := (Int.ofNat_tdiv r2 15).symm
  obtain ⟨d2, hd2⟩ : ∃ d, r2 / 15 = d := ⟨_, rfl⟩
  rw [hd2] at e2
  have hd21 : d2 ≤ 1 := by omega
  clear hd2
  go_wp2_with fail
  refine (pick_pos _ g a n c _ 5 (by omega) h2 (by omega) (by omega)).mono ?_
  rintro e w3 ⟨r3, hr3, rfl, h3, g3⟩
  have G3 := grownBy_trans G2 g3
  clear h2 g3 G2
  go_wp2_with fail
  refine (pick_pos _ g a n c _ 16 (by omega) h3 (by omega) (by omega)).mono ?_
  rintro e w4 ⟨r4, hr4, rfl, h4, g4⟩
  have G4 := grownBy_trans G3 g4
  clear h3 g4 G3
  have e4 : (r4 : Int).tdiv 15 = ((r4 / 15 : Nat) : Int) := (Int.ofNat_tdiv r4 15).symm
  obtain ⟨d4, hd4⟩ : ∃ d, r4 / 15 = d := ⟨_, rfl⟩
  rw [hd4] at e4
  have hd41 : d4 ≤ 1 := by omega
  clear hd4
  go_wp2
  go_ret2
  exact ⟨_, _, by omega, by omega, by omega, by omega, rfl, h4.more (by omega), G4⟩







end Go.Proofs.Yteieolkpmjoohaa
