/-
  The contracts of the model's draws of chapter 7: short texts, and numbers; nothing that was there is written. Condition: the bytes can be read. (Written by wip/tools/ch7_draw.py.)
-/
import Derived.Test.YtehppjilnacjlaaRdShort
import Derived.Test.YtehppjilnacjlaaPieceQ
import Derived.Deep.RegionHeld3
import Derived.OwnWalk
namespace Go.Proofs.Ytehppjilnacjlaa
open Go.RowKit

theorem results_four {fn : Func} {t u v x : Tmp} (h : fn.results = #[.tmp t, .tmp u, .tmp v, .tmp x]) (tmps : Array Value) (P : Program) (w : World) :
    (results fn tmps).run P w = .ok (.tuple #[tmps.getD t undef, tmps.getD u undef, tmps.getD v undef, tmps.getD x undef]) w := by
  simp [results, h]

theorem results_two7 {fn : Func} {t u : Tmp} (h : fn.results = #[.tmp t, .tmp u]) (tmps : Array Value) (P : Program) (w : World) :
    (results fn tmps).run P w = .ok (.tuple #[tmps.getD t undef, tmps.getD u undef]) w := by
  simp [results, h]
theorem results_three7 {fn : Func} {t u v : Tmp} (h : fn.results = #[.tmp t, .tmp u, .tmp v]) (tmps : Array Value) (P : Program) (w : World) :
    (results fn tmps).run P w = .ok (.tuple #[tmps.getD t undef, tmps.getD u undef, tmps.getD v undef]) w := by
  simp [results, h]
theorem below_rdD {w w1 w2 : World} (hb : Below w.heap.size w w1) (hs : w1.heap.size = w.heap.size + 1) (hg : w1.grownBy w2 (some w.heap.size)) : Below w.heap.size w w2 :=
  hb.grown hg (by omega) (fun k hk => by simp at hk; omega)

theorem grown_row {w w' : World} {g k : Nat} {o : Obj} (h : w.heap[k]? = some o) (hg : w.grownBy w' (some g)) (hne : k ≠ g) : w'.heap[k]? = some o :=
  (hg.block k (Array.getElem?_eq_some_iff.1 h).1 (by simpa using hne)).trans h
theorem RdAt.drew7 {w : World} {g : Nat} {a : Option Addr} {n c B : Nat} (h : RdAt w g a n c B) : RdAt w.drew g a n c B := RdAt.kept h (fun _ _ => rfl)
theorem row_drew7 {w : World} {k : Nat} {o : Obj} (h : w.heap[k]? = some o) : w.drew.heap[k]? = some o := h
theorem quo7 (r k : Nat) (h : (r : Int) < 2 * (k : Int)) : ∃ d : Nat, d ≤ 1 ∧ (r : Int).tdiv (k : Int) = (d : Int) := by
  refine ⟨r / k, ?_, (Int.ofNat_tdiv r k).symm⟩
  rcases Nat.eq_zero_or_pos k with rfl | hk
  · simp
  · exact Nat.lt_succ_iff.1 ((Nat.div_lt_iff_lt_mul hk).2 (by omega))
theorem row_set7 {w : World} {k g : Nat} {o : Obj} (h : w.heap[k]? = some o) (hne : k ≠ g) (j : Nat) (v : Value) : (w.setCell ⟨g, j, none⟩ v).heap[k]? = some o := (Below.heap_setCell _ _ _ _ hne).trans h
theorem cell_of_row7 (w : World) (g : Nat) (x y z : Int) {u v s : Value} {e : TypeId} (h : w.heap[g]? = some (.cells #[u, v, s] e (0, 0))) :
    (((w.setCell ⟨g, 0, none⟩ (.int .i64 x)).setCell ⟨g, 1, none⟩ (.int .i64 y)).setCell ⟨g, 2, none⟩ (.int .i64 z)).cell? ⟨g, 0, none⟩ = some (.int .i64 x) ∧
    (((w.setCell ⟨g, 0, none⟩ (.int .i64 x)).setCell ⟨g, 1, none⟩ (.int .i64 y)).setCell ⟨g, 2, none⟩ (.int .i64 z)).cell? ⟨g, 1, none⟩ = some (.int .i64 y) ∧
    (((w.setCell ⟨g, 0, none⟩ (.int .i64 x)).setCell ⟨g, 1, none⟩ (.int .i64 y)).setCell ⟨g, 2, none⟩ (.int .i64 z)).cell? ⟨g, 2, none⟩ = some (.int .i64 z) := by
  have h1 : Side w 0 (.slice none 0 0) e g [u, v, s] := ⟨h, Nat.zero_le _, by simp [Value.ownBlock]⟩
  have h2 := ((h1.set_self 0 (.int .i64 x)).set_self 1 (.int .i64 y)).set_self 2 (.int .i64 z)
  exact ⟨h2.cell 0 _ rfl, h2.cell 1 _ rfl, h2.cell 2 _ rfl⟩
theorem below_rd7 {w0 w w' : World} {B g : Nat} (h : Below B w0 w) (hs : B ≤ w.heap.size) (hg : w.grownBy w' (some g)) (hB : B ≤ g) : Below B w0 w' := h.grown hg hs (fun k hk => by simp at hk; omega)

set_option maxHeartbeats 2000000 in
theorem copy_any (w : World) (g : Nat) (a : Option Addr) (n c B : Nat) (s : ByteArray) (most : Nat) (hm : most ≤ 100) (hs : s.size ≤ 500) (hB : B < 90000) (h : RdAt w g a n c B) :
    Calls Try.prog 57 #[.pointer (some ⟨g, 0, none⟩), .string s, .int .i64 most] w fun e w' => ∃ t : ByteArray, t.size ≤ most + s.size ∧ e = .returned (.string t) ∧ RdAt w' g a n c (B + 200) ∧ w.grownBy w' (some g) := by
  go_enter Try.func57, Try.ntmps57
  go_wp2_with fail
  refine (short_any _ g a n c B most (by omega) (by omega) h).mono ?_
  rintro e w1 ⟨t, ht, rfl, h1, g1⟩
  by_cases h0 : 0 < s.size
  · have h0i : (0 : Int) < s.size := by omega
    go_wp2_with fail
    refine (pick_pos _ g a n c _ 4 (by omega) h1 (by omega) (by omega)).mono ?_
    rintro e w2 ⟨q, hq, rfl, h2, g2⟩
    have G2 := grownBy_trans g1 g2
    clear h1 g1 g2
    by_cases hq0 : 0 < q
    · have hq0i : (0 : Int) < (q : Int) := by omega
      go_wp2_with fail
      refine (pick_pos _ g a n c _ (s.size : Int) (by omega) h2 (by omega) (by omega)).mono ?_
      rintro e w3 ⟨f, hf, rfl, h3, g3⟩
      have G3 := grownBy_trans G2 g3
      clear h2 g3 G2
      go_wp2_with fail
      refine (pick_pos _ g a n c _ ((s.size : Int) - (f : Int) + 1) (by omega) h3 (by omega) (by omega)).mono ?_
      rintro e w4 ⟨m, hm4, rfl, h4, g4⟩
      have G4 := grownBy_trans G3 g4
      clear h3 g4 G3
      go_wp2_with fail
      refine (pick_pos _ g a n c _ ((t.size : Int) + 1) (by omega) h4 (by omega) (by omega)).mono ?_
      rintro e w5 ⟨i, hi, rfl, h5, g5⟩
      have G5 := grownBy_trans G4 g5
      clear h4 g5 G4
      have s1 : (0 : Int) ≤ (i : Int) := by omega
      have s2 : (i : Int) ≤ (t.size : Int) := by omega
      have s3 : (0 : Int) ≤ (f : Int) := by omega
      have s4 : (f : Int) ≤ (f : Int) + (m : Int) := by omega
      have s5 : (f : Int) + (m : Int) ≤ (s.size : Int) := by omega
      have sl1 : ∀ w, (Instr.slice 9 (.string s) (some (.int .i64 f)) (some (.int .i64 ((f : Int) + (m : Int)))) none).run Try.prog w = .ok (.string (s.extract f (f + m))) w := fun w => by
        have := run_slice_string (P := Try.prog) w 9 s .i64 .i64 f ((f : Int) + (m : Int)) Try.uls3 (by omega) (by omega) (by omega)
        rwa [Int.toNat_natCast, show ((f : Int) + (m : Int)).toNat = f + m by omega] at this
      have hsz : (t.extract 0 i ++ s.extract f (f + m) ++ t.extract i t.size).size ≤ most + s.size := by
        simp only [size_append, ByteArray.size_extract]; omega
      have H5 := Lib.hid h5
      have HG := Lib.hid G5
      clear h5 G5
      go_wp2
      go_quiet (fail)
      go_wp2
      go_ret
      exact ⟨_, hsz, rfl, by refine RdAt.more (RdAt.kept H5.out (fun _ _ => rfl)) ?_; omega, ⟨HG.out.os, HG.out.tape, HG.out.output, HG.out.size, HG.out.block⟩⟩
    · have hq0i : ¬ (0 : Int) < (q : Int) := by omega
      go_wp2
      go_ret
      exact ⟨t, by omega, rfl, h2.more (by omega), G2⟩
  · have h0i : ¬ (0 : Int) < s.size := by omega
    go_wp2
    go_ret
    exact ⟨t, by omega, rfl, h1.more (by omega), g1⟩


set_option maxHeartbeats 2000000 in
theorem two_any (w : World) (g : Nat) (a : Option Addr) (n c B : Nat) (hB : B < 80000) (h : RdAt w g a n c B) :
    Calls Try.prog 51 #[.pointer (some ⟨g, 0, none⟩)] w fun e w' => ∃ t u : ByteArray, t.size ≤ 14 ∧ u.size ≤ 39 ∧ e = .returned (.tuple #[.string t, .string u]) ∧ RdAt w' g a n c (B + 700) ∧ w.grownBy w' (some g) := by
  go_enter Try.func51, Try.ntmps51
  go_wp2_with fail
  refine (short_any _ g a n c B 14 (by omega) (by omega) h).mono ?_
  rintro e w1 ⟨t, ht, rfl, h1, g1⟩
  go_wp2_with fail
  refine (copy_any _ g a n c _ t 8 (by omega) (by omega) (by omega) h1).mono ?_
  rintro e w2 ⟨u, hu, rfl, h2, g2⟩
  have G2 := grownBy_trans g1 g2
  clear h1 g1 g2
  go_wp2_with fail
  refine (pick_pos _ g a n c _ 3 (by omega) h2 (by omega) (by omega)).mono ?_
  rintro e w3 ⟨r, hr, rfl, h3, g3⟩
  have G3 := grownBy_trans G2 g3
  clear h2 g3 G2
  by_cases hr0 : r = 0
  · subst hr0
    go_wp2_with fail
    refine (copy_any _ g a n c _ t 3 (by omega) (by omega) (by omega) h3).mono ?_
    rintro e w4 ⟨v, hv, rfl, h4, g4⟩
    have G4 := grownBy_trans G3 g4
    clear h3 g4 G3
    have hsz : (v ++ u).size ≤ 39 := by rw [size_append]; omega
    obtain ⟨x, hx⟩ : ∃ x, v ++ u = x := ⟨_, rfl⟩
    rw [hx] at hsz
    have H4 := Lib.hid h4
    have HG := Lib.hid G4
    have HX := Lib.hid hx
    clear hx h4 G4
    go_wp2
    rw [HX.out]
    (try simp only [Exit.inBlock, Exit.then]); refine bodyPost_ret (results_two7 rfl _ _ _) rfl ?_
    exact ⟨t, x, ht, hsz, rfl, H4.out.more (by omega), HG.out⟩
  · have hb : ((r : Int) == 0) = false := beq_eq_false_iff_ne.2 (by omega)
    go_wp2
    (try simp only [Exit.inBlock, Exit.then]); refine bodyPost_ret (results_two7 rfl _ _ _) rfl ?_
    exact ⟨t, u, ht, by omega, rfl, h3.more (by omega), G3⟩





end Go.Proofs.Ytehppjilnacjlaa
