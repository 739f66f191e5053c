/-
  The contracts of the model's draws of chapter 7: short texts, and numbers; nothing that was there is written. Condition: the bytes can be read. (Written by wip/tools/ch7_draw.py.)
-/
import Derived.Test.YtgkdelpebfgfmaaRdShort
import Derived.Test.YtgkdelpebfgfmaaPieceQ
import Derived.Deep.RegionHeld3
import Derived.OwnWalk
namespace Go.Proofs.Ytgkdelpebfgfmaa
open Go.RowKit

theorem results_four {fn : Func} {t u v x : Tmp} (h : fn.results = #[.tmp t, .tmp u, .tmp v, .tmp x]) (tmps : Array Value) (P : Program) (w : World) :
    (results fn tmps).run P w = .ok (.tuple #[tmps.getD t undef, tmps.getD u undef, tmps.getD v undef, tmps.getD x undef]) w := by
  simp [results, h]

theorem results_two7 {fn : Func} {t u : Tmp} (h : fn.results = #[.tmp t, .tmp u]) (tmps : Array Value) (P : Program) (w : World) :
    (results fn tmps).run P w = .ok (.tuple #[tmps.getD t undef, tmps.getD u undef]) w := by
  simp [results, h]
theorem results_three7 {fn : Func} {t u v : Tmp} (h : fn.results = #[.tmp t, .tmp u, .tmp v]) (tmps : Array Value) (P : Program) (w : World) :
    (results fn tmps).run P w = .ok (.tuple #[tmps.getD t undef, tmps.getD u undef, tmps.getD v undef]) w := by
  simp [results, h]
theorem below_rdD {w w1 w2 : World} (hb : Below w.heap.size w w1) (hs : w1.heap.size = w.heap.size + 1) (hg : w1.grownBy w2 (some w.heap.size)) : Below w.heap.size w w2 :=
  hb.grown hg (by omega) (fun k hk => by simp at hk; omega)

theorem grown_row {w w' : World} {g k : Nat} {o : Obj} (h : w.heap[k]? = some o) (hg : w.grownBy w' (some g)) (hne : k ≠ g) : w'.heap[k]? = some o :=
  (hg.block k (Array.getElem?_eq_some_iff.1 h).1 (by simpa using hne)).trans h
theorem RdAt.drew7 {w : World} {g : Nat} {a : Option Addr} {n c B : Nat} (h : RdAt w g a n c B) : RdAt w.drew g a n c B := RdAt.kept h (fun _ _ => rfl)
theorem row_drew7 {w : World} {k : Nat} {o : Obj} (h : w.heap[k]? = some o) : w.drew.heap[k]? = some o := h
theorem quo7 (r k : Nat) (h : (r : Int) < 2 * (k : Int)) : ∃ d : Nat, d ≤ 1 ∧ (r : Int).tdiv (k : Int) = (d : Int) := by
  refine ⟨r / k, ?_, (Int.ofNat_tdiv r k).symm⟩
  rcases Nat.eq_zero_or_pos k with rfl | hk
  · simp
  · exact Nat.lt_succ_iff.1 ((Nat.div_lt_iff_lt_mul hk).2 (by omega))
theorem row_set7 {w : World} {k g : Nat} {o : Obj} (h : w.heap[k]? = some o) (hne : k ≠ g) (j : Nat) (v : Value) : (w.setCell ⟨g, j, none⟩ v).heap[k]? = some o := (Below.heap_setCell _ _ _ _ hne).trans h
theorem cell_of_row7 (w : World) (g : Nat) (x y z : Int) {u v s : Value} {e : TypeId} (h : w.heap[g]? = some (.cells #[u, v, s] e (0, 0))) :
    (((w.setCell ⟨g, 0, none⟩ (.int .i64 x)).setCell ⟨g, 1, none⟩ (.int .i64 y)).setCell ⟨g, 2, none⟩ (.int .i64 z)).cell? ⟨g, 0, none⟩ = some (.int .i64 x) ∧
    (((w.setCell ⟨g, 0, none⟩ (.int .i64 x)).setCell ⟨g, 1, none⟩ (.int .i64 y)).setCell ⟨g, 2, none⟩ (.int .i64 z)).cell? ⟨g, 1, none⟩ = some (.int .i64 y) ∧
    (((w.setCell ⟨g, 0, none⟩ (.int .i64 x)).setCell ⟨g, 1, none⟩ (.int .i64 y)).setCell ⟨g, 2, none⟩ (.int .i64 z)).cell? ⟨g, 2, none⟩ = some (.int .i64 z) := by
  have h1 : Side w 0 (.slice none 0 0) e g [u, v, s] := ⟨h, Nat.zero_le _, by simp [Value.ownBlock]⟩
  have h2 := ((h1.set_self 0 (.int .i64 x)).set_self 1 (.int .i64 y)).set_self 2 (.int .i64 z)
  exact ⟨h2.cell 0 _ rfl, h2.cell 1 _ rfl, h2.cell 2 _ rfl⟩
theorem below_rd7 {w0 w w' : World} {B g : Nat} (h : Below B w0 w) (hs : B ≤ w.heap.size) (hg : w.grownBy w' (some g)) (hB : B ≤ g) : Below B w0 w' := h.grown hg hs (fun k hk => by simp at hk; omega)

set_option maxHeartbeats 2000000 in
theorem copy_any (w : World) (g : Nat) (a : Option Addr) (n c B : Nat) (s : ByteArray) (most : Nat) (hm : most ≤ 100) (hs : s.size ≤ 500) (hB : B < 90000) (h : RdAt w g a n c B) :
    Calls Try.prog 37 #[.pointer (some ⟨g, 0, none⟩), .string s, .int .i64 most] w fun e w' => ∃ t : ByteArray, t.size ≤ most + s.size ∧ e = .returned (.string t) ∧ RdAt w' g a n c (B + 200) ∧ w.grownBy w' (some g) := by
  go_enter Try.func37, Try.ntmps37
  go_wp2_with fail
  refine (short_any _ g a n c B most (by omega) (by omega) h).mono ?_
  rintro e w1 ⟨t, ht, rfl, h1, g1⟩
  by_cases h0 : 0 < s.size
  · have h0i : (0 : Int) < s.size := by omega
    go_wp2_with fail
    refine (pick_pos _ g a n c _ 4 (by omega) h1 (by omega) (by omega)).mono ?_
    rintro e w2 ⟨q, hq, rfl, h2, g2⟩
    have G2 := grownBy_trans g1 g2
    clear h1 g1 g2
    by_cases hq0 : 0 < q
    · have hq0i : (0 : Int) < (q : Int) := by omega
      go_wp2_with fail
      refine (pick_pos _ g a n c _ (s.size : Int) (by omega) h2 (by omega) (by omega)).mono ?_
      rintro e w3 ⟨f, hf, rfl, h3, g3⟩
      have G3 := grownBy_trans G2 g3
      clear h2 g3 G2
      go_wp2_with fail
      refine (pick_pos _ g a n c _ ((s.size : Int) - (f : Int) + 1) (by omega) h3 (by omega) (by omega)).mono ?_
      rintro e w4 ⟨m, hm4, rfl, h4, g4⟩
      have G4 := grownBy_trans G3 g4
      clear h3 g4 G3
      go_wp2_with fail
      refine (pick_pos _ g a n c _ ((t.size : Int) + 1) (by omega) h4 (by omega) (by omega)).mono ?_
      rintro e w5 ⟨i, hi, rfl, h5, g5⟩
      have G5 := grownBy_trans G4 g5
      clear h4 g5 G4
      have s1 : (0 : Int) ≤ (i : Int) := by omega
      have s2 : (i : Int) ≤ (t.size : Int) := by omega
      have s3 : (0 : Int) ≤ (f : Int) := by omega
      have s4 : (f : Int) ≤ (f : Int) + (m : Int) := by omega
      have s5 : (f : Int) + (m : Int) ≤ (s.size : Int) := by omega
      have sl1 : ∀ w, (Instr.slice 9 (.string s) (some (.int .i64 f)) (some (.int .i64 ((f : Int) + (m : Int)))) none).run Try.prog w = .ok (.string (s.extract f (f + m))) w := fun w => by
        have := run_slice_string (P := Try.prog) w 9 s .i64 .i64 f ((f : Int) + (m : Int)) Try.uls3 (by omega) (by omega) (by omega)
        rwa [Int.toNat_natCast, show ((f : Int) + (m : Int)).toNat = f + m by omega] at this
      have hsz : (t.extract 0 i ++ s.extract f (f + m) ++ t.extract i t.size).size ≤ most + s.size := by
        simp only [size_append, ByteArray.size_extract]; omega
      have H5 := Lib.hid h5
      have HG := Lib.hid G5
      clear h5 G5
      go_wp2
      go_quiet (fail)
      go_wp2
      go_ret
      exact ⟨_, hsz, rfl, by refine RdAt.more (RdAt.kept H5.out (fun _ _ => rfl)) ?_; omega, ⟨HG.out.os, HG.out.tape, HG.out.output, HG.out.size, HG.out.block⟩⟩
    · have hq0i : ¬ (0 : Int) < (q : Int) := by omega
      go_wp2
      go_ret
      exact ⟨t, by omega, rfl, h2.more (by omega), G2⟩
  · have h0i : ¬ (0 : Int) < s.size := by omega
    go_wp2
    go_ret
    exact ⟨t, by omega, rfl, h1.more (by omega), g1⟩


set_option maxHeartbeats 2000000 in
theorem two_any (w : World) (g : Nat) (a : Option Addr) (n c B : Nat) (hB : B < 80000) (h : RdAt w g a n c B) :
    Calls Try.prog 29 #[.pointer (some ⟨g, 0, none⟩)] w fun e w' => ∃ t u : ByteArray, t.size ≤ 14 ∧ u.size ≤ 39 ∧ e = .returned (.tuple #[.string t, .string u]) ∧ RdAt w' g a n c (B + 700) ∧ w.grownBy w' (some g) := by
  go_enter Try.func29, Try.ntmps29
  go_wp2_with fail
  refine (short_any _ g a n c B 14 (by omega) (by omega) h).mono ?_
  rintro e w1 ⟨t, ht, rfl, h1, g1⟩
  go_wp2_with fail
  refine (copy_any _ g a n c _ t 8 (by omega) (by omega) (by omega) h1).mono ?_
  rintro e w2 ⟨u, hu, rfl, h2, g2⟩
  have G2 := grownBy_trans g1 g2
  clear h1 g1 g2
  go_wp2_with fail
  refine (pick_pos _ g a n c _ 3 (by omega) h2 (by omega) (by omega)).mono ?_
  rintro e w3 ⟨r, hr, rfl, h3, g3⟩
  have G3 := grownBy_trans G2 g3
  clear h2 g3 G2
  by_cases hr0 : r = 0
  · subst hr0
    go_wp2_with fail
    refine (copy_any _ g a n c _ t 3 (by omega) (by omega) (by omega) h3).mono ?_
    rintro e w4 ⟨v, hv, rfl, h4, g4⟩
    have G4 := grownBy_trans G3 g4
    clear h3 g4 G3
    have hsz : (v ++ u).size ≤ 39 := by rw [size_append]; omega
    obtain ⟨x, hx⟩ : ∃ x, v ++ u = x := ⟨_, rfl⟩
    rw [hx] at hsz
    have H4 := Lib.hid h4
    have HG := Lib.hid G4
    have HX := Lib.hid hx
    clear hx h4 G4
    go_wp2
    rw [HX.out]
    (try simp only [Exit.inBlock, Exit.then]); refine bodyPost_ret (results_two7 rfl _ _ _) rfl ?_
    exact ⟨t, x, ht, hsz, rfl, H4.out.more (by omega), HG.out⟩
  · have hb : ((r : Int) == 0) = false := beq_eq_false_iff_ne.2 (by omega)
    go_wp2
    (try simp only [Exit.inBlock, Exit.then]); refine bodyPost_ret (results_two7 rfl _ _ _) rfl ?_
    exact ⟨t, u, ht, by omega, rfl, h3.more (by omega), G3⟩

theorem DrawLongestPiece_any (w : World) (a : Option Addr) (len cap : Nat) (zs : List Int) (h : IsRowK .u8 w a len cap zs) :
    Calls Try.prog 24 #[.slice a len cap] w fun e w' => ∃ t u : ByteArray, t.size ≤ 14 ∧ u.size ≤ 39 ∧ e = .returned (.tuple #[.string t, .string u]) ∧ Below w.heap.size w w' := by
  go_enter Try.func24, Try.ntmps24
  go_wp2_with fail
  refine (open_any _ _ _ _ _ h).mono ?_
  rintro e w1 ⟨n, rfl, hrd, hb, hs⟩
  go_wp2_with fail
  refine (two_any _ _ a n cap 0 (by omega) hrd).mono ?_
  rintro e w2 ⟨t, u, ht, hu, rfl, _, hg⟩
  have hB := below_rdD hb hs hg
  clear hg hrd h hb hs
  go_wp2
  (try simp only [Exit.inBlock, Exit.then]); refine bodyPost_ret (results_two7 rfl _ _ _) rfl ?_
  exact ⟨t, u, ht, hu, rfl, hB⟩

set_option maxHeartbeats 1000000 in
theorem DrawPiecesOf_any (w : World) (a : Option Addr) (len cap : Nat) (zs : List Int) (h : IsRowK .u8 w a len cap zs) :
    Calls Try.prog 10 #[.slice a len cap] w fun e w' => ∃ (t u : ByteArray) (k : Int), t.size ≤ 14 ∧ u.size ≤ 39 ∧ -1 ≤ k ∧ k ≤ 5 ∧ e = .returned (.tuple #[.string t, .string u, .int .i64 k]) ∧ Below w.heap.size w w' := by
  go_enter Try.func10, Try.ntmps10
  go_wp2_with fail
  refine (open_any _ _ _ _ _ h).mono ?_
  rintro e w1 ⟨n, rfl, hrd, hb, hs⟩
  go_wp2_with fail
  refine (two_any _ _ a n cap 0 (by omega) hrd).mono ?_
  rintro e w2 ⟨t, u, ht, hu, rfl, hr2, hg⟩
  have hB2 := below_rdD hb hs hg
  clear hg hrd h hb hs
  go_wp2_with fail
  refine (pick_pos _ _ a n cap _ 6 (by omega) hr2 (by omega) (by omega)).mono ?_
  rintro e w3 ⟨x, hx, rfl, hr3, hg⟩
  have hB3 := below_rd7 hB2 hB2.size hg (Nat.le_refl _)
  clear hg hr2 hB2
  go_wp2_with fail
  refine (pick_pos _ _ a n cap _ 12 (by omega) hr3 (by omega) (by omega)).mono ?_
  rintro e w4 ⟨y, hy, rfl, hr4, hg⟩
  have hB4 := below_rd7 hB3 hB3.size hg (Nat.le_refl _)
  clear hg hr3 hB3
  have ey : (y : Int).tdiv 11 = ((y / 11 : Nat) : Int) := (Int.ofNat_tdiv y 11).symm
  obtain ⟨dy, hdy⟩ : ∃ d, y / 11 = d := ⟨_, rfl⟩
  rw [hdy] at ey
  have hd1y : dy ≤ 1 := by omega
  clear hdy
  go_wp2
  (try simp only [Exit.inBlock, Exit.then]); refine bodyPost_ret (results_three7 rfl _ _ _) rfl ?_
  exact ⟨t, u, _, ht, hu, by omega, by omega, rfl, hB4⟩

set_option maxHeartbeats 1000000 in
theorem DrawGrowPiece_any (w : World) (a : Option Addr) (len cap : Nat) (zs : List Int) (h : IsRowK .u8 w a len cap zs) :
    Calls Try.prog 20 #[.slice a len cap] w fun e w' => ∃ (t u : ByteArray) (i j : Int), t.size ≤ 14 ∧ u.size ≤ 39 ∧ -1 ≤ i ∧ i ≤ 100 ∧ -1 ≤ j ∧ j ≤ 100 ∧ e = .returned (.tuple #[.string t, .string u, .int .i64 i, .int .i64 j]) ∧ Below w.heap.size w w' := by
  go_enter Try.func20, Try.ntmps20
  go_wp2_with fail
  refine (open_any _ _ _ _ _ h).mono ?_
  rintro e w1 ⟨n, rfl, hrd, hb, hs⟩
  go_wp2_with fail
  refine (two_any _ _ a n cap 0 (by omega) hrd).mono ?_
  rintro e w2 ⟨t, u, ht, hu, rfl, hr2, hg⟩
  have hB2 := below_rdD hb hs hg
  clear hg hrd h hb hs
  go_wp2_with fail
  refine (pick_pos _ _ a n cap _ ((t.size : Int) + 2) (by omega) hr2 (by omega) (by omega)).mono ?_
  rintro e w3 ⟨x, hx, rfl, hr3, hg⟩
  have hB3 := below_rd7 hB2 hB2.size hg (Nat.le_refl _)
  clear hg hr2 hB2
  go_wp2_with fail
  refine (pick_pos _ _ a n cap _ 12 (by omega) hr3 (by omega) (by omega)).mono ?_
  rintro e w4 ⟨y, hy, rfl, hr4, hg⟩
  have hB4 := below_rd7 hB3 hB3.size hg (Nat.le_refl _)
  clear hg hr3 hB3
  have ey : (y : Int).tdiv 11 = ((y / 11 : Nat) : Int) := (Int.ofNat_tdiv y 11).symm
  obtain ⟨dy, hdy⟩ : ∃ d, y / 11 = d := ⟨_, rfl⟩
  rw [hdy] at ey
  have hd1y : dy ≤ 1 := by omega
  clear hdy
  go_wp2_with fail
  refine (pick_pos _ _ a n cap _ ((u.size : Int) + 2) (by omega) hr4 (by omega) (by omega)).mono ?_
  rintro e w5 ⟨x2, hx2, rfl, hr5, hg⟩
  have hB5 := below_rd7 hB4 hB4.size hg (Nat.le_refl _)
  clear hg hr4 hB4
  go_wp2_with fail
  refine (pick_pos _ _ a n cap _ 12 (by omega) hr5 (by omega) (by omega)).mono ?_
  rintro e w6 ⟨y2, hy2, rfl, hr6, hg⟩
  have hB6 := below_rd7 hB5 hB5.size hg (Nat.le_refl _)
  clear hg hr5 hB5
  have ey2 : (y2 : Int).tdiv 11 = ((y2 / 11 : Nat) : Int) := (Int.ofNat_tdiv y2 11).symm
  obtain ⟨dy2, hdy2⟩ : ∃ d, y2 / 11 = d := ⟨_, rfl⟩
  rw [hdy2] at ey2
  have hd1y2 : dy2 ≤ 1 := by omega
  clear hdy2
  go_wp2
  (try simp only [Exit.inBlock, Exit.then]); refine bodyPost_ret (results_four rfl _ _ _) rfl ?_
  exact ⟨t, u, _, _, ht, hu, by omega, by omega, by omega, by omega, rfl, hB6⟩

set_option maxRecDepth 4000 in
set_option maxHeartbeats 4000000 in
theorem DrawPieceHas_any (w : World) (a : Option Addr) (len cap : Nat) (zs : List Int) (h : IsRowK .u8 w a len cap zs) :
    Calls Try.prog 22 #[.slice a len cap] w fun e w' => ∃ x y z i j k : Int, (0 ≤ x ∧ x ≤ 100 ∧ 0 ≤ y ∧ y ≤ 100 ∧ 0 ≤ z ∧ z ≤ 100) ∧ (-100 ≤ i ∧ i ≤ 100 ∧ -100 ≤ j ∧ j ≤ 100 ∧ 0 ≤ k ∧ k ≤ 100) ∧ e = .returned (.tuple #[.agg #[.int .i64 x, .int .i64 y, .int .i64 z], .int .i64 i, .int .i64 j, .int .i64 k]) ∧ Below w.heap.size w w' := by
  obtain ⟨hs, hhs⟩ : ∃ hs, w.heap.size = hs := ⟨_, rfl⟩
  have hZ : ∀ w2, w2 = w.alloc (.cells #[.int .i64 0, .int .i64 0, .int .i64 0] 29) → IsRowK .u8 w2 a len cap zs ∧ w2.heap[hs]? = some (.cells #[.int .i64 0, .int .i64 0, .int .i64 0] 29 (0, 0)) ∧ w2.heap.size = hs + 1 ∧ Below hs w w2 := by
    intro w2 e
    subst e hhs
    have hb := (Below.refl w.heap.size w).alloc (Nat.le_refl _) (.cells #[.int .i64 0, .int .i64 0, .int .i64 0] 29)
    refine ⟨?_, heap_alloc_new w _, by simp, hb⟩
    rcases h with h | ⟨x, h1, h2, h3, h4, h5, h6⟩
    · exact .inl h
    · exact .inr ⟨x, h1, h2, h3, h4, fun i hi => (hb.cell (World.block_lt_of_cell? w _ (h5 i hi))).trans (h5 i hi), h6⟩
  have HZ := Lib.hid hZ
  have HHS := Lib.hid hhs
  clear hZ h
  go_enter Try.func22, Try.ntmps22
  go_wp2_with fail
  generalize hw2 : World.alloc _ _ = w2
  obtain ⟨hrow, rr, hsz, hb2⟩ := HZ.out w2 hw2.symm
  clear HZ hw2
  refine (open_any _ _ _ _ _ hrow).mono ?_
  rintro e w3 ⟨n, rfl, hr3, hb3, hs3⟩
  rw [hsz] at hb3 hr3 hs3 ⊢
  have rr := (hb3.block hs (by omega)).trans rr
  have hB3 : Below hs w w3 := hb2.trans (hb3.mono (by omega))
  clear hrow hb3 hb2 hsz hs3
  go_wp2_with fail
  refine (pick_pos _ _ a n cap _ 5 (by omega) hr3 (by omega) (by omega)).mono ?_
  rintro e w4 ⟨x1, hx1, rfl, hr4, hg⟩
  have hB4 := below_rd7 hB3 (by have := hB3.size; omega) hg (Nat.le_succ _)
  have rr := grown_row rr hg (by omega)
  clear hg hr3 hB3
  go_wp2_with fail
  refine (pick_pos _ _ a n cap _ 5 (by omega) hr4 (by omega) (by omega)).mono ?_
  rintro e w5 ⟨x2, hx2, rfl, hr5, hg⟩
  have hB5 := below_rd7 hB4 (by have := hB4.size; omega) hg (Nat.le_succ _)
  have rr := grown_row rr hg (by omega)
  clear hg hr4 hB4
  go_wp2_with fail
  refine (pick_pos _ _ a n cap _ 6 (by omega) hr5 (by omega) (by omega)).mono ?_
  rintro e w6 ⟨x3, hx3, rfl, hr6, hg⟩
  have hB6 := below_rd7 hB5 (by have := hB5.size; omega) hg (Nat.le_succ _)
  have rr := grown_row rr hg (by omega)
  clear hg hr5 hB5
  go_wp2
  obtain ⟨gp, hgp⟩ : ∃ gp, w6.heap.size = gp := ⟨_, rfl⟩
  have hgp9 : hs + 1 < gp := by rw [← hgp]; exact hr6.lt
  obtain ⟨w7, hw7⟩ : ∃ w7, w6.alloc (.cells #[.int .i64 x1, .int .i64 x2, .int .i64 x3] 29) = w7 := ⟨_, rfl⟩
  have hx : w7.heap[gp]? = some (.cells #[.int .i64 x1, .int .i64 x2, .int .i64 x3] 29 (0, 0)) ∧ w7.heap[hs]? = some (.cells #[.int .i64 0, .int .i64 0, .int .i64 0] 29 (0, 0)) ∧ RdAt w7 (hs + 1) a n cap 3 ∧ Below hs w w7 := by
    subst hw7 hgp
    exact ⟨heap_alloc_new w6 _, (heap_alloc_old w6 _ (Array.getElem?_eq_some_iff.1 rr).1).trans rr, RdAt.kept hr6 (fun k hk => heap_alloc_old w6 _ (by omega)), hB6.alloc (by have := hB6.size; omega) _⟩
  rw [hw7, hgp]
  clear rr
  obtain ⟨rp, rr, hr7, hB7⟩ := hx
  clear hw7 hgp hr6 hB6
  have kp := cell_of_row w7 gp 0 _ _ _ rp
  go_region_held3 (fun w' => w'.cell? ⟨gp, 0, none⟩ = some (.int .i64 (x1 : Int))) (first | go_keep | exact kp8)
    ((go_at_call 30; refine (pick_pos _ (hs + 1) a n cap 3 5 (by omega) (by first | exact hr7 | exact RdAt.drew7 hr7) (by omega) (by omega)).mono ?_; rintro e w8 ⟨x4, hx4, rfl, hr8, hg⟩; have rr8 := grown_row (by first | exact rr | exact row_drew7 rr) hg (by omega); have rp8 := grown_row (by first | exact rp | exact row_drew7 rp) hg (by omega); have hB8 : Below hs w w8 := below_rd7 (by first | exact hB7 | exact Below.drew hB7) (by have := hB7.size; simpa using (by omega)) hg (Nat.le_succ _); have kp8 := cell_of_row w8 gp 0 _ _ _ rp8))
  have hr8 : RdAt w8 (hs + 1) a n cap 4 := hr8
  clear kp8 hg rp rr hr7 hB7 kp
  have kp8 : w8.cell? ⟨gp, 0, none⟩ = some (.int .i64 (x1 : Int)) ∧ w8.cell? ⟨gp, 1, none⟩ = some (.int .i64 (x2 : Int)) ∧ w8.cell? ⟨gp, 2, none⟩ = some (.int .i64 (x3 : Int)) := ⟨cell_of_row w8 gp 0 _ _ _ rp8, cell_of_row w8 gp 1 _ _ _ rp8, cell_of_row w8 gp 2 _ _ _ rp8⟩
  go_wp2
  obtain ⟨kq1, kq2, kq3⟩ := kp8
  go_region_held3 (fun w' => w'.cell? ⟨gp, 0, none⟩ = some (.int .i64 (x1 : Int)) ∧ w'.cell? ⟨gp, 1, none⟩ = some (.int .i64 (x2 : Int)) ∧ w'.cell? ⟨gp, 2, none⟩ = some (.int .i64 (x3 : Int))) (first | go_keep | exact kp9 | exact kp10 | exact kp11 | exact kz)
    ((first
      | (go_at_call 30; refine (pick_pos _ (hs + 1) a n cap 6 _ (by omega) (by first | exact hr10 | exact RdAt.drew7 hr10) (by omega) (by omega)).mono ?_; rintro e w11 ⟨y3, hy3, rfl, hr11, hg⟩; have rr11 := grown_row (by first | exact rr10 | exact row_drew7 rr10) hg (by omega); have rp11 := grown_row (by first | exact rp10 | exact row_drew7 rp10) hg (by omega); have hB11 : Below hs w w11 := below_rd7 (by first | exact hB10 | exact Below.drew hB10) (by have := hB10.size; simpa using (by omega)) hg (Nat.le_succ _); have kp11 : w11.cell? ⟨gp, 0, none⟩ = some (.int .i64 (x1 : Int)) ∧ w11.cell? ⟨gp, 1, none⟩ = some (.int .i64 (x2 : Int)) ∧ w11.cell? ⟨gp, 2, none⟩ = some (.int .i64 (x3 : Int)) := ⟨cell_of_row w11 gp 0 _ _ _ rp11, cell_of_row w11 gp 1 _ _ _ rp11, cell_of_row w11 gp 2 _ _ _ rp11⟩; clear hg; have f1 := frozen_of_row w11 hs 0 _ _ rr11; have f2 := frozen_of_row w11 hs 1 _ _ rr11; have f3 := frozen_of_row w11 hs 2 _ _ rr11; have g1 := cell_of_row w11 hs 0 _ _ _ rr11; have g2 := cell_of_row w11 hs 1 _ _ _ rr11; have g3 := cell_of_row w11 hs 2 _ _ _ rr11; have rz := row_set7 (g := hs) (row_set7 (g := hs) (row_set7 (g := hs) rp11 (by omega) 0 (.int .i64 (x1 : Int))) (by omega) 1 (.int .i64 (x2 : Int))) (by omega) 2 (.int .i64 (x3 : Int)); have kz := And.intro (cell_of_row _ gp 0 _ _ _ rz) (And.intro (cell_of_row _ gp 1 _ _ _ rz) (cell_of_row _ gp 2 _ _ _ rz)))
      | (go_at_call 30; refine (pick_pos _ (hs + 1) a n cap 5 _ (by omega) (by first | exact hr9 | exact RdAt.drew7 hr9) (by omega) (by omega)).mono ?_; rintro e w10 ⟨y2, hy2, rfl, hr10, hg⟩; have rr10 := grown_row (by first | exact rr9 | exact row_drew7 rr9) hg (by omega); have rp10 := grown_row (by first | exact rp9 | exact row_drew7 rp9) hg (by omega); have hB10 : Below hs w w10 := below_rd7 (by first | exact hB9 | exact Below.drew hB9) (by have := hB9.size; simpa using (by omega)) hg (Nat.le_succ _); have kp10 : w10.cell? ⟨gp, 0, none⟩ = some (.int .i64 (x1 : Int)) ∧ w10.cell? ⟨gp, 1, none⟩ = some (.int .i64 (x2 : Int)) ∧ w10.cell? ⟨gp, 2, none⟩ = some (.int .i64 (x3 : Int)) := ⟨cell_of_row w10 gp 0 _ _ _ rp10, cell_of_row w10 gp 1 _ _ _ rp10, cell_of_row w10 gp 2 _ _ _ rp10⟩; clear hg; obtain ⟨d2, hd2, ed2⟩ := quo7 y2 5 (by omega))
      | (go_at_call 30; refine (pick_pos _ (hs + 1) a n cap 4 _ (by omega) (by first | exact hr8 | exact RdAt.drew7 hr8) (by omega) (by omega)).mono ?_; rintro e w9 ⟨y1, hy1, rfl, hr9, hg⟩; have rr9 := grown_row (by first | exact rr8 | exact row_drew7 rr8) hg (by omega); have rp9 := grown_row (by first | exact rp8 | exact row_drew7 rp8) hg (by omega); have hB9 : Below hs w w9 := below_rd7 (by first | exact hB8 | exact Below.drew hB8) (by have := hB8.size; simpa using (by omega)) hg (Nat.le_succ _); have kp9 : w9.cell? ⟨gp, 0, none⟩ = some (.int .i64 (x1 : Int)) ∧ w9.cell? ⟨gp, 1, none⟩ = some (.int .i64 (x2 : Int)) ∧ w9.cell? ⟨gp, 2, none⟩ = some (.int .i64 (x3 : Int)) := ⟨cell_of_row w9 gp 0 _ _ _ rp9, cell_of_row w9 gp 1 _ _ _ rp9, cell_of_row w9 gp 2 _ _ _ rp9⟩; clear hg; obtain ⟨d1, hd1, ed1⟩ := quo7 y1 5 (by omega))))
  have q0 : IntKind.i64.wrap ((x1 : Int) + (x4 : Int)) = (x1 : Int) + (x4 : Int) := IntWalk.i64_in _ (by omega)
  have q1 : IntKind.i64.wrap ((y1 : Int) / 5) = (y1 : Int) / 5 := IntWalk.i64_in _ (by omega)
  have q2 : IntKind.i64.wrap ((y2 : Int) / 5) = (y2 : Int) / 5 := IntWalk.i64_in _ (by omega)
  have q3 : IntKind.i64.wrap ((x1 : Int) + (x4 : Int) - (y1 : Int) / 5) = (x1 : Int) + (x4 : Int) - (y1 : Int) / 5 := IntWalk.i64_in _ (by omega)
  have q4 : IntKind.i64.wrap ((x2 : Int) + ((x1 : Int) + (x4 : Int))) = (x2 : Int) + ((x1 : Int) + (x4 : Int)) := IntWalk.i64_in _ (by omega)
  have q5 : IntKind.i64.wrap ((x2 : Int) + ((x1 : Int) + (x4 : Int)) - (x1 : Int)) = (x2 : Int) + ((x1 : Int) + (x4 : Int)) - (x1 : Int) := IntWalk.i64_in _ (by omega)
  have q6 : IntKind.i64.wrap ((x2 : Int) + ((x1 : Int) + (x4 : Int)) - (x1 : Int) + (y2 : Int) / 5) = (x2 : Int) + ((x1 : Int) + (x4 : Int)) - (x1 : Int) + (y2 : Int) / 5 := IntWalk.i64_in _ (by omega)
  simp only [q0, q1, q2, q3, q4, q5, q6]
  have r1 := cell_of_row7 w11 hs x1 x2 x3 rr11
  clear q0 q1 q2 q3 q4 q5 q6 kz rz kp11 kp10 kp9 f1 f2 f3 g1 g2 g3
  obtain ⟨r1, r2, r3⟩ := r1
  obtain ⟨i, hi⟩ : ∃ i, (x1 : Int) + (x4 : Int) - (y1 : Int) / 5 = i := ⟨_, rfl⟩
  obtain ⟨j, hj⟩ : ∃ j, (x2 : Int) + ((x1 : Int) + (x4 : Int)) - (x1 : Int) + (y2 : Int) / 5 = j := ⟨_, rfl⟩
  rw [hi, hj]
  have HI := Lib.hid hi
  have HJ := Lib.hid hj
  clear hi hj
  go_wp2
  refine bodyPost_ret (v := .tuple #[.agg #[.int .i64 (x1 : Int), .int .i64 (x2 : Int), .int .i64 (x3 : Int)], .int .i64 i, .int .i64 j, .int .i64 (y3 : Int)]) (by simp [results, Try.results22, go_sem, r1, r2, r3]) rfl ⟨(x1 : Int), (x2 : Int), (x3 : Int), i, j, (y3 : Int), by omega, by have := HI.out; have := HJ.out; omega, rfl, ?_⟩
  rw [hhs]
  exact ((hB11.setCell (p := ⟨hs, 0, none⟩) (Nat.le_refl _) _).setCell (p := ⟨hs, 1, none⟩) (Nat.le_refl _) _).setCell (p := ⟨hs, 2, none⟩) (Nat.le_refl _) _

end Go.Proofs.Ytgkdelpebfgfmaa
