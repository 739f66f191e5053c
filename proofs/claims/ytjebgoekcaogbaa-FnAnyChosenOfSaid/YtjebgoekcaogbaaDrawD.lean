/-
  The contracts of the model's draws of chapter 4: texts of at most 500 bytes, and small numbers; nothing that was there is written. Condition: the bytes can be read.
-/
import Derived.Test.YtjebgoekcaogbaaRdShort
import Derived.OwnWalk
namespace Go.Proofs.Ytjebgoekcaogbaa
open Go.RowKit

theorem Try.ulID : Try.prog.underlying 23 = some (.slice 3) := by kernel_rfl
theorem Try.infoID : (Try.prog.info? 3).map (fun i => (i.zero, i.size, i.bytes)) = some (some (.int .i64 0), 1, 8) := by kernel_rfl

theorem results_four {fn : Func} {t u v x : Tmp} (h : fn.results = #[.tmp t, .tmp u, .tmp v, .tmp x]) (tmps : Array Value) (P : Program) (w : World) :
    (results fn tmps).run P w = .ok (.tuple #[tmps.getD t undef, tmps.getD u undef, tmps.getD v undef, tmps.getD x undef]) w := by
  simp [results, h]

theorem below_rdD {w w1 w2 : World} (hb : Below w.heap.size w w1) (hs : w1.heap.size = w.heap.size + 1) (hg : w1.grownBy w2 (some w.heap.size)) : Below w.heap.size w w2 :=
  hb.grown hg (by omega) (fun k hk => by simp at hk; omega)

theorem sizes_any (w : World) (g : Nat) (a : Option Addr) (n c B : Nat) (hB : B < 100000) (h : RdAt w g a n c B) :
    Calls Try.prog 42 #[.pointer (some ⟨g, 0, none⟩)] w fun e w' => ∃ k v : Int, -1 ≤ k ∧ k ≤ 4 ∧ -1 ≤ v ∧ v ≤ 5 ∧ e = .returned (.tuple #[.int .i64 k, .int .i64 v]) ∧ RdAt w' g a n c (B + 4) ∧ w.grownBy w' (some g) := by
  go_enter Try.func42, Try.ntmps42
  go_wp2_with fail
  refine (pick_pos _ g a n c B 4 (by omega) h (by omega) (by omega)).mono ?_
  rintro e w1 ⟨r1, hr1, rfl, h1, g1⟩
  go_wp2_with fail
  refine (pick_pos _ g a n c _ 16 (by omega) h1 (by omega) (by omega)).mono ?_
  rintro e w2 ⟨r2, hr2, rfl, h2, g2⟩
  have G2 := grownBy_trans g1 g2
  clear h1 g1 g2
  have e2 : (r2 : Int).tdiv 15 = ((r2 / 15 : Nat) : Int) := (Int.ofNat_tdiv r2 15).symm
  obtain ⟨d2, hd2⟩ : ∃ d, r2 / 15 = d := ⟨_, rfl⟩
  rw [hd2] at e2
  have hd21 : d2 ≤ 1 := by omega
  clear hd2
  go_wp2_with fail
  refine (pick_pos _ g a n c _ 5 (by omega) h2 (by omega) (by omega)).mono ?_
  rintro e w3 ⟨r3, hr3, rfl, h3, g3⟩
  have G3 := grownBy_trans G2 g3
  clear h2 g3 G2
  go_wp2_with fail
  refine (pick_pos _ g a n c _ 16 (by omega) h3 (by omega) (by omega)).mono ?_
  rintro e w4 ⟨r4, hr4, rfl, h4, g4⟩
  have G4 := grownBy_trans G3 g4
  clear h3 g4 G3
  have e4 : (r4 : Int).tdiv 15 = ((r4 / 15 : Nat) : Int) := (Int.ofNat_tdiv r4 15).symm
  obtain ⟨d4, hd4⟩ : ∃ d, r4 / 15 = d := ⟨_, rfl⟩
  rw [hd4] at e4
  have hd41 : d4 ≤ 1 := by omega
  clear hd4
  go_wp2
  go_ret2
  exact ⟨_, _, by omega, by omega, by omega, by omega, rfl, h4.more (by omega), G4⟩

theorem DrawSureLength_any (w : World) (a : Option Addr) (len cap : Nat) (zs : List Int) (h : IsRowK .u8 w a len cap zs) :
    Calls Try.prog 26 #[.slice a len cap] w fun e w' => ∃ k v : Int, -1 ≤ k ∧ k ≤ 4 ∧ -1 ≤ v ∧ v ≤ 5 ∧ e = .returned (.tuple #[.int .i64 k, .int .i64 v]) ∧ Below w.heap.size w w' := by
  go_enter Try.func26, Try.ntmps26
  go_wp2_with fail
  refine (open_any _ _ _ _ _ h).mono ?_
  rintro e w1 ⟨n, rfl, hrd, hb, hs⟩
  go_wp2_with fail
  refine (sizes_any _ _ a n cap 0 (by omega) hrd).mono ?_
  rintro e w2 ⟨k, v, hk0, hk9, hv0, hv9, rfl, _, hg⟩
  have hB := below_rdD hb hs hg
  clear hg hrd h hb hs
  go_wp2
  go_ret2
  exact ⟨k, v, hk0, hk9, hv0, hv9, rfl, hB⟩

theorem DrawMarksOf_any (w : World) (a : Option Addr) (len cap : Nat) (zs : List Int) (h : IsRowK .u8 w a len cap zs) :
    Calls Try.prog 19 #[.slice a len cap] w fun e w' => ∃ (t : ByteArray) (k v : Int), t.size ≤ 30 ∧ -1 ≤ k ∧ k ≤ 4 ∧ -1 ≤ v ∧ v ≤ 5 ∧ e = .returned (.tuple #[.string t, .int .i64 k, .int .i64 v]) ∧ Below w.heap.size w w' := by
  go_enter Try.func19, Try.ntmps19
  go_wp2_with fail
  refine (open_any _ _ _ _ _ h).mono ?_
  rintro e w1 ⟨n, rfl, hrd, hb, hs⟩
  go_wp2_with fail
  refine (sizes_any _ _ a n cap 0 (by omega) hrd).mono ?_
  rintro e w2 ⟨k, v, hk0, hk9, hv0, hv9, rfl, hrd2, hg⟩
  have hB := below_rdD hb hs hg
  clear hg hrd h
  go_wp2_with fail
  refine (short_any _ _ a n cap _ 30 (by omega) (by omega) hrd2).mono ?_
  rintro e w3 ⟨t, ht, rfl, _, hg3⟩
  have hB3 : Below w.heap.size w w3 := hB.grown hg3 hB.size (fun k hk => by simp at hk; omega)
  clear hg3 hrd2 hb hs hB
  go_wp2
  go_ret3
  exact ⟨t, k, v, by omega, hk0, hk9, hv0, hv9, rfl, hB3⟩

theorem DrawMarksAfter_any (w : World) (a : Option Addr) (len cap : Nat) (zs : List Int) (h : IsRowK .u8 w a len cap zs) :
    Calls Try.prog 31 #[.slice a len cap] w fun e w' => ∃ (t u : ByteArray) (k v : Int), t.size ≤ 20 ∧ u.size ≤ 12 ∧ -1 ≤ k ∧ k ≤ 4 ∧ -1 ≤ v ∧ v ≤ 5 ∧ e = .returned (.tuple #[.string t, .string u, .int .i64 k, .int .i64 v]) ∧ Below w.heap.size w w' := by
  go_enter Try.func31, Try.ntmps31
  go_wp2_with fail
  refine (open_any _ _ _ _ _ h).mono ?_
  rintro e w1 ⟨n, rfl, hrd, hb, hs⟩
  go_wp2_with fail
  refine (sizes_any _ _ a n cap 0 (by omega) hrd).mono ?_
  rintro e w2 ⟨k, v, hk0, hk9, hv0, hv9, rfl, hrd2, hg⟩
  have hB := below_rdD hb hs hg
  clear hg hrd h
  go_wp2_with fail
  refine (short_any _ _ a n cap _ 20 (by omega) (by omega) hrd2).mono ?_
  rintro e w3 ⟨t, ht, rfl, hrd3, hg3⟩
  have hB3 : Below w.heap.size w w3 := hB.grown hg3 hB.size (fun k hk => by simp at hk; omega)
  clear hg3 hrd2 hB
  go_wp2_with fail
  refine (short_any _ _ a n cap _ 12 (by omega) (by omega) hrd3).mono ?_
  rintro e w4 ⟨u, hu, rfl, _, hg4⟩
  have hB4 : Below w.heap.size w w4 := hB3.grown hg4 hB3.size (fun k hk => by simp at hk; omega)
  clear hg4 hrd3 hb hs hB3
  go_wp2
  (try simp only [Exit.inBlock, Exit.then]); refine bodyPost_ret (results_four rfl _ _ _) rfl ?_
  exact ⟨t, u, k, v, by omega, by omega, hk0, hk9, hv0, hv9, rfl, hB4⟩

set_option maxHeartbeats 2000000 in
theorem copy_any (w : World) (g : Nat) (a : Option Addr) (n c B : Nat) (s : ByteArray) (most : Nat) (hm : most ≤ 100) (hs : s.size ≤ 500) (hB : B < 90000) (h : RdAt w g a n c B) :
    Calls Try.prog 48 #[.pointer (some ⟨g, 0, none⟩), .string s, .int .i64 most] w fun e w' => ∃ t : ByteArray, t.size ≤ most + s.size ∧ e = .returned (.string t) ∧ RdAt w' g a n c (B + 200) ∧ w.grownBy w' (some g) := by
  go_enter Try.func48, Try.ntmps48
  go_wp2_with fail
  refine (short_any _ g a n c B most (by omega) (by omega) h).mono ?_
  rintro e w1 ⟨t, ht, rfl, h1, g1⟩
  by_cases h0 : 0 < s.size
  · have h0i : (0 : Int) < s.size := by omega
    go_wp2_with fail
    refine (pick_pos _ g a n c _ 4 (by omega) h1 (by omega) (by omega)).mono ?_
    rintro e w2 ⟨q, hq, rfl, h2, g2⟩
    have G2 := grownBy_trans g1 g2
    clear h1 g1 g2
    by_cases hq0 : 0 < q
    · have hq0i : (0 : Int) < (q : Int) := by omega
      go_wp2_with fail
      refine (pick_pos _ g a n c _ (s.size : Int) (by omega) h2 (by omega) (by omega)).mono ?_
      rintro e w3 ⟨f, hf, rfl, h3, g3⟩
      have G3 := grownBy_trans G2 g3
      clear h2 g3 G2
      go_wp2_with fail
      refine (pick_pos _ g a n c _ ((s.size : Int) - (f : Int) + 1) (by omega) h3 (by omega) (by omega)).mono ?_
      rintro e w4 ⟨m, hm4, rfl, h4, g4⟩
      have G4 := grownBy_trans G3 g4
      clear h3 g4 G3
      go_wp2_with fail
      refine (pick_pos _ g a n c _ ((t.size : Int) + 1) (by omega) h4 (by omega) (by omega)).mono ?_
      rintro e w5 ⟨i, hi, rfl, h5, g5⟩
      have G5 := grownBy_trans G4 g5
      clear h4 g5 G4
      have s1 : (0 : Int) ≤ (i : Int) := by omega
      have s2 : (i : Int) ≤ (t.size : Int) := by omega
      have s3 : (0 : Int) ≤ (f : Int) := by omega
      have s4 : (f : Int) ≤ (f : Int) + (m : Int) := by omega
      have s5 : (f : Int) + (m : Int) ≤ (s.size : Int) := by omega
      have sl1 : ∀ w, (Instr.slice 9 (.string s) (some (.int .i64 f)) (some (.int .i64 ((f : Int) + (m : Int)))) none).run Try.prog w = .ok (.string (s.extract f (f + m))) w := fun w => by
        have := run_slice_string (P := Try.prog) w 9 s .i64 .i64 f ((f : Int) + (m : Int)) Try.uls3 (by omega) (by omega) (by omega)
        rwa [Int.toNat_natCast, show ((f : Int) + (m : Int)).toNat = f + m by omega] at this
      have hsz : (t.extract 0 i ++ s.extract f (f + m) ++ t.extract i t.size).size ≤ most + s.size := by
        simp only [size_append, ByteArray.size_extract]; omega
      have H5 := Lib.hid h5
      have HG := Lib.hid G5
      clear h5 G5
      go_wp2
      go_quiet (fail)
      go_wp2
      go_ret
      exact ⟨_, hsz, rfl, by refine RdAt.more (RdAt.kept H5.out (fun _ _ => rfl)) ?_; omega, ⟨HG.out.os, HG.out.tape, HG.out.output, HG.out.size, HG.out.block⟩⟩
    · have hq0i : ¬ (0 : Int) < (q : Int) := by omega
      go_wp2
      go_ret
      exact ⟨t, by omega, rfl, h2.more (by omega), G2⟩
  · have h0i : ¬ (0 : Int) < s.size := by omega
    go_wp2
    go_ret
    exact ⟨t, by omega, rfl, h1.more (by omega), g1⟩

theorem DrawMarksShared_any (w : World) (a : Option Addr) (len cap : Nat) (zs : List Int) (h : IsRowK .u8 w a len cap zs) :
    Calls Try.prog 25 #[.slice a len cap] w fun e w' => ∃ (t u : ByteArray) (k v : Int), t.size ≤ 24 ∧ u.size ≤ 36 ∧ -1 ≤ k ∧ k ≤ 4 ∧ -1 ≤ v ∧ v ≤ 5 ∧ e = .returned (.tuple #[.string t, .string u, .int .i64 k, .int .i64 v]) ∧ Below w.heap.size w w' := by
  go_enter Try.func25, Try.ntmps25
  go_wp2_with fail
  refine (open_any _ _ _ _ _ h).mono ?_
  rintro e w1 ⟨n, rfl, hrd, hb, hs⟩
  go_wp2_with fail
  refine (sizes_any _ _ a n cap 0 (by omega) hrd).mono ?_
  rintro e w2 ⟨k, v, hk0, hk9, hv0, hv9, rfl, hrd2, hg⟩
  have hB := below_rdD hb hs hg
  clear hg hrd h
  go_wp2_with fail
  refine (short_any _ _ a n cap _ 24 (by omega) (by omega) hrd2).mono ?_
  rintro e w3 ⟨t, ht, rfl, hrd3, hg3⟩
  have hB3 : Below w.heap.size w w3 := hB.grown hg3 hB.size (fun k hk => by simp at hk; omega)
  clear hg3 hrd2 hB
  go_wp2_with fail
  refine (copy_any _ _ a n cap _ t 12 (by omega) (by omega) (by omega) hrd3).mono ?_
  rintro e w4 ⟨u, hu, rfl, _, hg4⟩
  have hB4 : Below w.heap.size w w4 := hB3.grown hg4 hB3.size (fun k hk => by simp at hk; omega)
  clear hg4 hrd3 hb hs hB3
  go_wp2
  (try simp only [Exit.inBlock, Exit.then]); refine bodyPost_ret (results_four rfl _ _ _) rfl ?_
  exact ⟨t, u, k, v, by omega, by omega, hk0, hk9, hv0, hv9, rfl, hB4⟩

set_option maxHeartbeats 1000000 in
theorem DrawChosenOf_any (w : World) (a : Option Addr) (len cap : Nat) (zs : List Int) (h : IsRowK .u8 w a len cap zs) :
    Calls Try.prog 13 #[.slice a len cap] w fun e w' => ∃ (l : List Int) (a' : Option Addr) (n' c' : Nat) (v : Int), n' ≤ 20 ∧ -1 ≤ v ∧ v ≤ 7 ∧ e = .returned (.tuple #[.slice a' n' c', .int .i64 v]) ∧ One w w.heap.size w' 3 1 a' n' c' (intCells l) := by
  obtain ⟨i0, hi0, hz0, hz1, hz2⟩ := info_parts Try.infoID
  go_enter Try.func13, Try.ntmps13
  go_wp2_with fail
  refine (open_any _ _ _ _ _ h).mono ?_
  rintro e w1 ⟨n, rfl, hrd, hb, hs⟩
  have hlt := hrd.lt
  have HS := Lib.hid hs
  clear hs
  go_wp2_with fail
  refine (pick_pos _ _ a n cap 0 20 (by omega) (rd_alloc hrd _) (by omega) (by omega)).mono ?_
  rintro e w2 ⟨k0, hk0, rfl, hrd2, hg2⟩
  have hrow0 := ((World.ownsRow_lit (e := 3) (size := 1) w1 #[] 0 (Nat.le_refl _) (Nat.zero_le _) (by simp)).kept hg2 (.inr (by simp [Value.ownBlock]; omega)))
  have hG1 : w1.grownBy w2 (some w.heap.size) := grownBy_trans (World.grownBy_alloc w1 _ _) hg2
  clear hg2 h hrd
  go_wp2
  go_loopw [5, 6] (fun o_ i_ wr => ∃ (k : Nat) (a1 : Option Addr) (n1 c1 : Nat) (l : List Int), k ≤ k0 ∧ i_ = .int .i64 k ∧ o_ = .slice a1 n1 c1 ∧ n1 + k ≤ k0 ∧ wr.ownsRow w1.heap.size 3 1 (.slice a1 n1 c1) n1 (intCells l) ∧ RdAt wr w.heap.size a n cap (1 + (k0 - k)) ∧ w1.grownBy wr (some w.heap.size)) (fun _ i_ _ => (intOf i_).toNat)
  case atStart => exact ⟨k0, _, 0, _, [], Nat.le_refl _, rfl, rfl, by omega, hrow0, hrd2.more (by omega), hG1⟩
  case round =>
    clear hrow0 hrd2 hG1
    obtain ⟨k, a1, n1, c1, l, hk, rfl, rfl, hn1, hown, hrd, hG⟩ := hrel
    by_cases hpos : 0 < k
    · go_wp2_with fail
      refine (pick_pos _ _ a n cap _ 6 (by omega) hrd (by omega) (by omega)).mono ?_
      rintro e w3 ⟨r, hr, rfl, hrd3, hg3⟩
      have hown3 := hown.kept hg3 (by
        cases hv : Value.ownBlock (.slice a1 n1 c1) with
        | none => exact Or.inl rfl
        | some q => right; have := (hown.lt q hv).1; simp; omega)
      have hG3 := grownBy_trans hG hg3
      clear hg3 hrd hown hG
      have HC := Lib.hid (show intCells (l ++ [(r : Int)]) = intCells l ++ [.int .i64 (r : Int)] by rw [intCells_append]; rfl)
      go_wp2_with (at_builtin; refine wpList_append_one rfl (.tmp 16) (.tmp 19) 23 rfl w1.heap.size 3 i0 _ 1 8 Try.ulID hi0 hz0 hz1 hz2 rfl (by decide) a1 n1 c1 _ rfl hown3 #[.int .i64 (r : Int)] rfl rfl (by simp [Value.oneCell']) (by unfold maxLen; omega) (by omega) hG3.size ?_; intro a5 c5 w5 h5 g5)
      have hG5 := grown_ownS hG3 hown3 (Nat.le_refl _) g5
      have hrd5 := rd_ownS hrd3 hown3 hlt g5
      clear hown3 hG3 hrd3 g5
      go_roundw
      case rel => exact ⟨k - 1, _, _, _, l ++ [(r : Int)], by omega, by go_num, rfl, by omega, by rw [HC.out]; exact h5, hrd5.more (by omega), hG5⟩
      case measure => simp [intOf]; omega
    · obtain rfl : k = 0 := by omega
      go_wp2_with fail
      refine (pick_pos _ _ a n cap _ 7 (by omega) hrd (by omega) (by omega)).mono ?_
      rintro e w3 ⟨r, hr, rfl, hrd3, hg3⟩
      have hown3 := hown.kept hg3 (by
        cases hv : Value.ownBlock (.slice a1 n1 c1) with
        | none => exact Or.inl rfl
        | some q => right; have := (hown.lt q hv).1; simp; omega)
      have hG3 := grownBy_trans hG hg3
      clear hg3 hrd hown hG
      go_wp2_with fail
      refine (pick_pos _ _ a n cap _ 8 (by omega) hrd3 (by omega) (by omega)).mono ?_
      rintro e w4 ⟨q, hq, rfl, _, hg4⟩
      have hown4 := hown3.kept hg4 (by
        cases hv : Value.ownBlock (.slice a1 n1 c1) with
        | none => exact Or.inl rfl
        | some q => right; have := (hown3.lt q hv).1; simp; omega)
      have hG4 := grownBy_trans hG3 hg4
      clear hg4 hrd3 hown3 hG3
      have e4 : (q : Int).tdiv 7 = ((q / 7 : Nat) : Int) := (Int.ofNat_tdiv q 7).symm
      obtain ⟨d, hd⟩ : ∃ d, q / 7 = d := ⟨_, rfl⟩
      rw [hd] at e4
      have hd1 : d ≤ 1 := by omega
      have hB := below_rdD hb HS.out hG4
      have hone : One w w.heap.size w4 3 1 a1 n1 c1 (intCells l) := ⟨own_under hown4 (by omega), hB.size, hB⟩
      clear hd hb hG4 hown4
      go_wp2
      go_ret2
      exact ⟨l, _, _, _, _, by omega, by omega, by omega, rfl, hone⟩

end Go.Proofs.Ytjebgoekcaogbaa
