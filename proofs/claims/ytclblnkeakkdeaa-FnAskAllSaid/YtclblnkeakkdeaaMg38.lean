/-
  The contracts of the model's draws of chapter 4: texts of at most 500 bytes, and small numbers; nothing that was there is written. Condition: the bytes can be read.
  The contracts of the model's draws of chapter 8: rows of at most ten texts of at most 100 bytes, in memory of their own. Condition: the bytes can be read.
  The contracts of the model's draws of chapter 8 (FoundBy, FalseTwins, ShelfOfAll, Asked, AskAll): texts of at most 100 bytes, small numbers, rows of at most four texts in memory of their own. Condition: the bytes can be read.
-/
import Derived.Test.YtclblnkeakkdeaaMg37
import Derived.OwnWalk
namespace Go.Proofs.Ytclblnkeakkdeaa
open Go.RowKit

theorem Try.ulID : Try.prog.underlying 33 = some (.slice 3) := by kernel_rfl
theorem Try.infoID : (Try.prog.info? 3).map (fun i => (i.zero, i.size, i.bytes)) = some (some (.int .i64 0), 1, 8) := by kernel_rfl

theorem results_four {fn : Func} {t u v x : Tmp} (h : fn.results = #[.tmp t, .tmp u, .tmp v, .tmp x]) (tmps : Array Value) (P : Program) (w : World) :
    (results fn tmps).run P w = .ok (.tuple #[tmps.getD t undef, tmps.getD u undef, tmps.getD v undef, tmps.getD x undef]) w := by
  simp [results, h]

theorem below_rdD {w w1 w2 : World} (hb : Below w.heap.size w w1) (hs : w1.heap.size = w.heap.size + 1) (hg : w1.grownBy w2 (some w.heap.size)) : Below w.heap.size w w2 :=
  hb.grown hg (by omega) (fun k hk => by simp at hk; omega)

theorem sizes_any (w : World) (g : Nat) (a : Option Addr) (n c B : Nat) (hB : B < 100000) (h : RdAt w g a n c B) :
    Calls Try.prog 79 #[.pointer (some ⟨g, 0, none⟩)] w fun e w' => ∃ k v : Int, -1 ≤ k ∧ k ≤ 4 ∧ -1 ≤ v ∧ v ≤ 5 ∧ e = .returned (.tuple #[.int .i64 k, .int .i64 v]) ∧ RdAt w' g a n c (B + 4) ∧ w.grownBy w' (some g) := by
  go_enter Try.func79, Try.ntmps79
  go_wp2_with fail
  refine (pick_pos _ g a n c B 4 (by omega) h (by omega) (by omega)).mono ?_
  rintro e w1 ⟨r1, hr1, rfl, h1, g1⟩
  go_wp2_with fail
  refine (pick_pos _ g a n c _ 16 (by omega) h1 (by omega) (by omega)).mono ?_
  rintro e w2 ⟨r2, hr2, rfl, h2, g2⟩
  have G2 := grownBy_trans g1 g2
  clear h1 g1 g2
  have e2 : (r2 : Int).tdiv 15 = ((r2 / 15 : Nat) : Int) := (Int.ofNat_tdiv r2 15).symm
  obtain ⟨d2, hd2⟩ : ∃ d, r2 / 15 = d := ⟨_, rfl⟩
  rw [hd2] at e2
  have hd21 : d2 ≤ 1 := by omega
  clear hd2
  go_wp2_with fail
  refine (pick_pos _ g a n c _ 5 (by omega) h2 (by omega) (by omega)).mono ?_
  rintro e w3 ⟨r3, hr3, rfl, h3, g3⟩
  have G3 := grownBy_trans G2 g3
  clear h2 g3 G2
  go_wp2_with fail
  refine (pick_pos _ g a n c _ 16 (by omega) h3 (by omega) (by omega)).mono ?_
  rintro e w4 ⟨r4, hr4, rfl, h4, g4⟩
  have G4 := grownBy_trans G3 g4
  clear h3 g4 G3
  have e4 : (r4 : Int).tdiv 15 = ((r4 / 15 : Nat) : Int) := (Int.ofNat_tdiv r4 15).symm
  obtain ⟨d4, hd4⟩ : ∃ d, r4 / 15 = d := ⟨_, rfl⟩
  rw [hd4] at e4
  have hd41 : d4 ≤ 1 := by omega
  clear hd4
  go_wp2
  go_ret2
  exact ⟨_, _, by omega, by omega, by omega, by omega, rfl, h4.more (by omega), G4⟩




set_option maxHeartbeats 2000000 in
theorem copy_any (w : World) (g : Nat) (a : Option Addr) (n c B : Nat) (s : ByteArray) (most : Nat) (hm : most ≤ 100) (hs : s.size ≤ 500) (hB : B < 90000) (h : RdAt w g a n c B) :
    Calls Try.prog 95 #[.pointer (some ⟨g, 0, none⟩), .string s, .int .i64 most] w fun e w' => ∃ t : ByteArray, t.size ≤ most + s.size ∧ e = .returned (.string t) ∧ RdAt w' g a n c (B + 200) ∧ w.grownBy w' (some g) := by
  go_enter Try.func95, Try.ntmps95
  go_wp2_with fail
  refine (short_any _ g a n c B most (by omega) (by omega) h).mono ?_
  rintro e w1 ⟨t, ht, rfl, h1, g1⟩
  by_cases h0 : 0 < s.size
  · have h0i : (0 : Int) < s.size := by omega
    go_wp2_with fail
    refine (pick_pos _ g a n c _ 4 (by omega) h1 (by omega) (by omega)).mono ?_
    rintro e w2 ⟨q, hq, rfl, h2, g2⟩
    have G2 := grownBy_trans g1 g2
    clear h1 g1 g2
    by_cases hq0 : 0 < q
    · have hq0i : (0 : Int) < (q : Int) := by omega
      go_wp2_with fail
      refine (pick_pos _ g a n c _ (s.size : Int) (by omega) h2 (by omega) (by omega)).mono ?_
      rintro e w3 ⟨f, hf, rfl, h3, g3⟩
      have G3 := grownBy_trans G2 g3
      clear h2 g3 G2
      go_wp2_with fail
      refine (pick_pos _ g a n c _ ((s.size : Int) - (f : Int) + 1) (by omega) h3 (by omega) (by omega)).mono ?_
      rintro e w4 ⟨m, hm4, rfl, h4, g4⟩
      have G4 := grownBy_trans G3 g4
      clear h3 g4 G3
      go_wp2_with fail
      refine (pick_pos _ g a n c _ ((t.size : Int) + 1) (by omega) h4 (by omega) (by omega)).mono ?_
      rintro e w5 ⟨i, hi, rfl, h5, g5⟩
      have G5 := grownBy_trans G4 g5
      clear h4 g5 G4
      have s1 : (0 : Int) ≤ (i : Int) := by omega
      have s2 : (i : Int) ≤ (t.size : Int) := by omega
      have s3 : (0 : Int) ≤ (f : Int) := by omega
      have s4 : (f : Int) ≤ (f : Int) + (m : Int) := by omega
      have s5 : (f : Int) + (m : Int) ≤ (s.size : Int) := by omega
      have sl1 : ∀ w, (Instr.slice 9 (.string s) (some (.int .i64 f)) (some (.int .i64 ((f : Int) + (m : Int)))) none).run Try.prog w = .ok (.string (s.extract f (f + m))) w := fun w => by
        have := run_slice_string (P := Try.prog) w 9 s .i64 .i64 f ((f : Int) + (m : Int)) Try.uls3 (by omega) (by omega) (by omega)
        rwa [Int.toNat_natCast, show ((f : Int) + (m : Int)).toNat = f + m by omega] at this
      have hsz : (t.extract 0 i ++ s.extract f (f + m) ++ t.extract i t.size).size ≤ most + s.size := by
        simp only [size_append, ByteArray.size_extract]; omega
      have H5 := Lib.hid h5
      have HG := Lib.hid G5
      clear h5 G5
      go_wp2
      go_quiet (fail)
      go_wp2
      go_ret
      exact ⟨_, hsz, rfl, by refine RdAt.more (RdAt.kept H5.out (fun _ _ => rfl)) ?_; omega, ⟨HG.out.os, HG.out.tape, HG.out.output, HG.out.size, HG.out.block⟩⟩
    · have hq0i : ¬ (0 : Int) < (q : Int) := by omega
      go_wp2
      go_ret
      exact ⟨t, by omega, rfl, h2.more (by omega), G2⟩
  · have h0i : ¬ (0 : Int) < s.size := by omega
    go_wp2
    go_ret
    exact ⟨t, by omega, rfl, h1.more (by omega), g1⟩



end Go.Proofs.Ytclblnkeakkdeaa

namespace Go.Proofs.Ytclblnkeakkdeaa
open Go.RowKit

theorem Try.ul8S : Try.prog.underlying 68 = some (.slice 9) := by kernel_rfl
theorem Try.info8S : (Try.prog.info? 9).map (fun i => (i.zero, i.size, i.bytes)) = some (some (.string ⟨#[]⟩), 1, 16) := by kernel_rfl
theorem results_two7 {fn : Func} {t u : Tmp} (h : fn.results = #[.tmp t, .tmp u]) (tmps : Array Value) (P : Program) (w : World) :
    (results fn tmps).run P w = .ok (.tuple #[tmps.getD t undef, tmps.getD u undef]) w := by
  simp [results, h]

set_option maxHeartbeats 2000000 in
theorem two_any (w : World) (g : Nat) (a : Option Addr) (n c B : Nat) (hB : B < 80000) (h : RdAt w g a n c B) :
    Calls Try.prog 78 #[.pointer (some ⟨g, 0, none⟩)] w fun e w' => ∃ t u : ByteArray, t.size ≤ 14 ∧ u.size ≤ 39 ∧ e = .returned (.tuple #[.string t, .string u]) ∧ RdAt w' g a n c (B + 700) ∧ w.grownBy w' (some g) := by
  go_enter Try.func78, Try.ntmps78
  go_wp2_with fail
  refine (short_any _ g a n c B 14 (by omega) (by omega) h).mono ?_
  rintro e w1 ⟨t, ht, rfl, h1, g1⟩
  go_wp2_with fail
  refine (copy_any _ g a n c _ t 8 (by omega) (by omega) (by omega) h1).mono ?_
  rintro e w2 ⟨u, hu, rfl, h2, g2⟩
  have G2 := grownBy_trans g1 g2
  clear h1 g1 g2
  go_wp2_with fail
  refine (pick_pos _ g a n c _ 3 (by omega) h2 (by omega) (by omega)).mono ?_
  rintro e w3 ⟨r, hr, rfl, h3, g3⟩
  have G3 := grownBy_trans G2 g3
  clear h2 g3 G2
  by_cases hr0 : r = 0
  · subst hr0
    go_wp2_with fail
    refine (copy_any _ g a n c _ t 3 (by omega) (by omega) (by omega) h3).mono ?_
    rintro e w4 ⟨v, hv, rfl, h4, g4⟩
    have G4 := grownBy_trans G3 g4
    clear h3 g4 G3
    have hsz : (v ++ u).size ≤ 39 := by rw [size_append]; omega
    obtain ⟨x, hx⟩ : ∃ x, v ++ u = x := ⟨_, rfl⟩
    rw [hx] at hsz
    have H4 := Lib.hid h4
    have HG := Lib.hid G4
    have HX := Lib.hid hx
    clear hx h4 G4
    go_wp2
    rw [HX.out]
    (try simp only [Exit.inBlock, Exit.then]); refine bodyPost_ret (results_two7 rfl _ _ _) rfl ?_
    exact ⟨t, x, ht, hsz, rfl, H4.out.more (by omega), HG.out⟩
  · have hb : ((r : Int) == 0) = false := beq_eq_false_iff_ne.2 (by omega)
    go_wp2
    (try simp only [Exit.inBlock, Exit.then]); refine bodyPost_ret (results_two7 rfl _ _ _) rfl ?_
    exact ⟨t, u, ht, by omega, rfl, h3.more (by omega), G3⟩

theorem own_kept8 {w w' : World} {B g : Nat} {e : TypeId} {s : Nat} {a1 : Option Addr} {n1 c1 : Nat} {xs : List Value} (h : w.ownsRow B e s (.slice a1 n1 c1) n1 xs) (hg : w.grownBy w' (some g)) (hB : g < B) : w'.ownsRow B e s (.slice a1 n1 c1) n1 xs :=
  h.kept hg (by
    cases hv : Value.ownBlock (.slice a1 n1 c1) with
    | none => exact Or.inl rfl
    | some q => right; have := (h.lt q hv).1; simp; omega)

set_option maxRecDepth 4000 in
set_option maxHeartbeats 8000000 in
theorem docs_any (w : World) (g : Nat) (a : Option Addr) (n c B : Nat) (most : Nat) (hm : most ≤ 10) (hB : B < 10000) (h : RdAt w g a n c B) :
    Calls Try.prog 91 #[.pointer (some ⟨g, 0, none⟩), .int .i64 most] w fun e w' => ∃ (D : List ByteArray) (a' : Option Addr) (n' c' : Nat), D.length ≤ most ∧ (∀ x ∈ D, x.size ≤ 69) ∧ e = .returned (.slice a' n' c') ∧ w'.ownsRow w.heap.size 9 1 (.slice a' n' c') n' (strsC D) ∧ RdAt w' g a n c (B + 2200) ∧ w.grownBy w' (some g) := by
  have hlt := h.lt
  obtain ⟨i0, hi0, hz0, hz1, hz2⟩ := info_parts Try.info8S
  go_enter Try.func91, Try.ntmps91
  go_wp2_with fail
  refine (pick_pos _ g a n c B ((most : Int) + 1) (by omega) (rd_alloc h _) (by omega) (by omega)).mono ?_
  rintro e w1 ⟨k0, hk0, rfl, hrd1, hg1⟩
  have hrow0 : w1.ownsRow w.heap.size 9 1 (.slice (some ⟨w.heap.size, 0, none⟩) 0 0) 0 (strsC []) := own_kept8 (World.ownsRow_lit (e := 9) (size := 1) w #[] 0 (Nat.le_refl _) (Nat.zero_le _) (by simp)) hg1 hlt
  have hG1 : w.grownBy w1 (some g) := grownBy_trans (World.grownBy_alloc w _ _) hg1
  have hk3 : k0 ≤ 10 := by omega
  have hkm : k0 ≤ most := by omega
  clear hg1 h hk0
  go_wp2
  go_loopw [5, 6] (fun v i wr => ∃ (k : Nat) (a1 : Option Addr) (n1 c1 : Nat) (L : List ByteArray), k ≤ 10 ∧ i = .int .i64 k ∧ v = .slice a1 n1 c1 ∧ L.length + k ≤ most ∧ Hid (∀ x ∈ L, x.size ≤ 9 + 6 * L.length) ∧ wr.ownsRow w.heap.size 9 1 (.slice a1 n1 c1) n1 (strsC L) ∧ RdAt wr g a n c (B + 1 + (10 - k) * 215) ∧ w.grownBy wr (some g)) (fun _ i _ => (intOf i).toNat)
  case atStart => exact ⟨k0, _, 0, _, [], hk3, rfl, rfl, by simpa using hkm, Lib.hid (by simp), hrow0, hrd1.more (by omega), hG1⟩
  case round =>
    clear hrow0 hrd1 hG1 hk3 hkm
    obtain ⟨k, a1, n1, c1, L, hk, rfl, rfl, hLk, HS, hown, hrd, hG⟩ := hrel
    have hn1 : n1 = L.length := by have h1 := hown.1; rw [strsC_len] at h1; omega
    have HN := Lib.hid hn1
    have hn9 : n1 ≤ 10 := by omega
    clear hn1
    by_cases hpos : 0 < k
    · have z1 : (0 : Int) < (k : Int) := by omega
      go_wp2_with fail
      refine (short_any _ g a n c _ 9 (by omega) (by omega) hrd).mono ?_
      rintro e w2 ⟨t, ht, rfl, hrd2, hg2⟩
      have hown2 := own_kept8 hown hg2 hlt
      have hG2 : w.grownBy w2 (some g) := grownBy_trans hG hg2
      clear hg2 hrd hown hG
      by_cases hL0 : 0 < n1
      · have z2 : (0 : Int) < (n1 : Int) := by omega
        go_wp2_with fail
        refine (pick_pos _ g a n c _ (n1 : Int) (by omega) hrd2 (by omega) (by omega)).mono ?_
        rintro e w3 ⟨r, hr, rfl, hrd3, hg3⟩
        have hown3 := own_kept8 hown2 hg3 hlt
        have hG3 : w.grownBy w3 (some g) := grownBy_trans hG2 hg3
        clear hg3 hrd2 hown2 hG2
        have hrL : r < L.length := by have := HN.out; omega
        obtain ⟨b1, o1, rfl, _, hc1⟩ := (cellsAt_own hown3).str (fun e => by rw [e] at hrL; simp at hrL)
        have kc := hc1 r hrL
        obtain ⟨x, hx⟩ : ∃ x, L[r] = x := ⟨_, rfl⟩
        rw [hx] at kc
        have hxs : x.size ≤ 9 + 6 * L.length := HS.out x (hx ▸ List.getElem_mem hrL)
        have hLe : L.length ≤ 10 := by omega
        clear hc1 hx
        go_wp2_with fail
        refine (copy_any _ g a n c _ x 6 (by omega) (by omega) (by omega) hrd3).mono ?_
        rintro e w4 ⟨u, hu, rfl, hrd4, hg4⟩
        have hown4 := own_kept8 hown3 hg4 hlt
        have hG4 : w.grownBy w4 (some g) := grownBy_trans hG3 hg4
        clear hg4 hrd3 hown3 hG3 kc
        have hus : u.size ≤ 9 + 6 * (L.length + 1) := by omega
        go_wp2_with (at_builtin; refine wpList_append_one rfl (.tmp 31) (.tmp 33) 68 rfl w.heap.size 9 i0 _ 1 16 Try.ul8S hi0 hz0 hz1 hz2 rfl (by decide) _ n1 c1 _ rfl hown4 #[.string u] rfl rfl (by simp [Value.oneCell']) (by unfold maxLen; omega) (by omega) hG4.size ?_; intro a5 c5 w5 h5 hg5)
        have hG5 := grown_ownS hG4 hown4 (Nat.le_refl _) hg5
        have hrd5 := rd_ownS hrd4 hown4 hlt hg5
        clear hown4 hG4 hrd4 hg5
        go_roundw
        case rel => exact ⟨k - 1, a5, n1 + 1, c5, L ++ [u], by omega, by go_num, rfl, by simp; omega, Lib.hid (fun y hy => by
            rw [List.length_append]
            rcases List.mem_append.1 hy with hy | hy
            · have := HS.out y hy
              simp; omega
            · simp at hy; subst hy; simpa using hus), by rw [strsC_append]; exact h5, hrd5.more (by omega), hG5⟩
        case measure => simp [intOf]; omega
      · have z2 : ¬ (0 : Int) < (n1 : Int) := by omega
        go_wp2_with (at_builtin; refine wpList_append_one rfl (.tmp 31) (.tmp 33) 68 rfl w.heap.size 9 i0 _ 1 16 Try.ul8S hi0 hz0 hz1 hz2 rfl (by decide) _ n1 c1 _ rfl hown2 #[.string t] rfl rfl (by simp [Value.oneCell']) (by unfold maxLen; omega) (by omega) hG2.size ?_; intro a5 c5 w5 h5 hg5)
        have hG5 := grown_ownS hG2 hown2 (Nat.le_refl _) hg5
        have hrd5 := rd_ownS hrd2 hown2 hlt hg5
        clear hown2 hG2 hrd2 hg5
        go_roundw
        case rel => exact ⟨k - 1, a5, n1 + 1, c5, L ++ [t], by omega, by go_num, rfl, by simp; omega, Lib.hid (fun y hy => by
            rw [List.length_append]
            rcases List.mem_append.1 hy with hy | hy
            · have := HS.out y hy
              simp; omega
            · simp at hy; subst hy; simp; omega), by rw [strsC_append]; exact h5, hrd5.more (by omega), hG5⟩
        case measure => simp [intOf]; omega
    · obtain rfl : k = 0 := by omega
      have HL := Lib.hid hLk
      clear hLk
      go_wp2
      go_ret
      exact ⟨L, a1, n1, c1, by have := HL.out; omega, fun x hx => by have := HS.out x hx; have := HL.out; omega, rfl, hown, hrd.more (by omega), hG⟩

end Go.Proofs.Ytclblnkeakkdeaa

namespace Go.Proofs.Ytclblnkeakkdeaa
open Go.RowKit

theorem results_five8 {fn : Func} {t u v x y : Tmp} (h : fn.results = #[.tmp t, .tmp u, .tmp v, .tmp x, .tmp y]) (tmps : Array Value) (P : Program) (w : World) :
    (results fn tmps).run P w = .ok (.tuple #[tmps.getD t undef, tmps.getD u undef, tmps.getD v undef, tmps.getD x undef, tmps.getD y undef]) w := by
  simp [results, h]
theorem results_three8 {fn : Func} {t u v : Tmp} (h : fn.results = #[.tmp t, .tmp u, .tmp v]) (tmps : Array Value) (P : Program) (w : World) :
    (results fn tmps).run P w = .ok (.tuple #[tmps.getD t undef, tmps.getD u undef, tmps.getD v undef]) w := by
  simp [results, h]
theorem below_rd8 {w0 w w' : World} {B g : Nat} (h : Below B w0 w) (hs : B ≤ w.heap.size) (hg : w.grownBy w' (some g)) (hB : B ≤ g) : Below B w0 w' := h.grown hg hs (fun k hk => by simp at hk; omega)

theorem isRow_below8 {w w' : World} {a : Option Addr} {n c : Nat} {zs : List Int} (h : IsRowK .u8 w a n c zs) (hb : Below w.heap.size w w') : IsRowK .u8 w' a n c zs := by
  rcases h with h | ⟨x, h1, h2, h3, h4, h5, h6⟩
  · exact .inl h
  · refine .inr ⟨x, h1, h2, h3, h4, fun i hi => ?_, h6⟩
    have h7 := h5 i hi
    refine (hb.cell (p := x.add i) ?_).trans h7
    exact World.block_lt_of_cell? w _ h7

set_option maxHeartbeats 1000000 in
theorem DrawFoundBy_any (w : World) (a : Option Addr) (len cap : Nat) (zs : List Int) (h : IsRowK .u8 w a len cap zs) :
    Calls Try.prog 38 #[.slice a len cap] w fun e w' => ∃ (t u : ByteArray) (k v n : Int), t.size ≤ 14 ∧ u.size ≤ 39 ∧ -1 ≤ k ∧ k ≤ 4 ∧ -1 ≤ v ∧ v ≤ 5 ∧ -4 ≤ n ∧ n ≤ 10 ∧ e = .returned (.tuple #[.string t, .string u, .int .i64 k, .int .i64 v, .int .i64 n]) ∧ Below w.heap.size w w' := by
  go_enter Try.func38, Try.ntmps38
  go_wp2_with fail
  refine (open_any _ _ _ _ _ h).mono ?_
  rintro e w1 ⟨n, rfl, hrd, hb, hs⟩
  go_wp2_with fail
  refine (two_any _ _ a n cap 0 (by omega) hrd).mono ?_
  rintro e w2 ⟨t, u, ht, hu, rfl, hrd2, hg⟩
  have hB2 := below_rdD hb hs hg
  clear hg hrd h hb hs
  go_wp2_with fail
  refine (sizes_any _ _ a n cap _ (by omega) hrd2).mono ?_
  rintro e w3 ⟨k, v, hk0, hk9, hv0, hv9, rfl, hrd3, hg⟩
  have hB3 := below_rd8 hB2 hB2.size hg (Nat.le_refl _)
  clear hg hrd2 hB2
  have e1 : IntKind.i64.wrap (k + v) = k + v := IntWalk.i64_in _ (by omega)
  have e2 : IntKind.i64.wrap (k + v - 2) = k + v - 2 := IntWalk.i64_in _ (by omega)
  go_wp2_with fail
  refine (pick_pos _ _ a n cap _ 4 (by omega) hrd3 (by omega) (by omega)).mono ?_
  rintro e w4 ⟨x, hx, rfl, _, hg⟩
  have hB4 := below_rd8 hB3 hB3.size hg (Nat.le_refl _)
  clear hg hrd3 hB3
  have e3 : IntKind.i64.wrap (k + v - 2 + (x : Int)) = k + v - 2 + (x : Int) := IntWalk.i64_in _ (by omega)
  go_wp2
  (try simp only [Exit.inBlock, Exit.then]); refine bodyPost_ret (results_five8 rfl _ _ _) rfl ?_
  exact ⟨t, u, k, v, k + v - 2 + (x : Int), ht, hu, hk0, hk9, hv0, hv9, by omega, by omega, rfl, hB4⟩

set_option maxHeartbeats 1000000 in
theorem DrawFalseTwins_any (w : World) (a : Option Addr) (len cap : Nat) (zs : List Int) (h : IsRowK .u8 w a len cap zs) :
    Calls Try.prog 44 #[.slice a len cap] w fun e w' => ∃ (t u : ByteArray) (k v : Int), t.size ≤ 14 ∧ u.size ≤ 39 ∧ -1 ≤ k ∧ k ≤ 4 ∧ -1 ≤ v ∧ v ≤ 5 ∧ e = .returned (.tuple #[.string t, .string u, .int .i64 k, .int .i64 v]) ∧ Below w.heap.size w w' := by
  go_enter Try.func44, Try.ntmps44
  go_wp2_with fail
  refine (DrawFoundBy_any _ _ _ _ _ h).mono ?_
  rintro e w1 ⟨t, u, k, v, n5, ht, hu, hk0, hk9, hv0, hv9, _, _, rfl, hb1⟩
  have h1 := isRow_below8 h hb1
  clear h
  go_wp2_with fail
  refine (open_any _ _ _ _ _ h1).mono ?_
  rintro e w2 ⟨n, rfl, hrd2, hb2, hs2⟩
  have hB2 := hb1.trans (hb2.mono hb1.size)
  have hg9 := hb1.size
  clear h1 hb2 hb1
  obtain ⟨g, hg0⟩ : ∃ g, w1.heap.size = g := ⟨_, rfl⟩
  rw [hg0] at hrd2 hg9 hs2
  rw [hg0]
  clear hg0
  go_wp2_with fail
  refine (pick_pos _ _ a n cap _ 3 (by omega) hrd2 (by omega) (by omega)).mono ?_
  rintro e w3 ⟨x, hx, rfl, hrd3, hg⟩
  have hB3 := below_rd8 hB2 hB2.size hg hg9
  clear hg hrd2 hB2 hs2
  by_cases hx0 : x = 0
  · subst hx0
    go_wp2_with fail
    refine (pick_pos _ _ a n cap _ 4 (by omega) (rd_alloc hrd3 _) (by omega) (by omega)).mono ?_
    rintro e w4 ⟨r, hr, rfl, hrd4, hg⟩
    have hrow := laid_row hg hrd3.lt
    have hB4 := below_rd8 (hB3.alloc hB3.size _) (Nat.le_trans hB3.size (by simp)) hg hg9
    obtain ⟨t2, ht2, hc⟩ : ∃ t : ByteArray, t.size ≤ 14 ∧ w4.cell? ⟨w3.heap.size, r, none⟩ = some (.string t) := by
      rw [cell_of_row w4 w3.heap.size r _ _ _ hrow]
      have : r = 0 ∨ r = 1 ∨ r = 2 ∨ r = 3 := by omega
      rcases this with rfl | rfl | rfl | rfl
      all_goals exact ⟨_, by decide, rfl⟩
    clear hrow hg hrd3 hB3
    go_wp2_with fail
    refine (pick_pos _ _ a n cap _ 4 (by omega) (rd_alloc hrd4 _) (by omega) (by omega)).mono ?_
    rintro e w5 ⟨r2, hr2, rfl, hrd5, hg⟩
    have hrow := laid_row hg hrd4.lt
    have hB5 := below_rd8 (hB4.alloc hB4.size _) (Nat.le_trans hB4.size (by simp)) hg hg9
    obtain ⟨u2, hu2, hc2⟩ : ∃ t : ByteArray, t.size ≤ 14 ∧ w5.cell? ⟨w4.heap.size, r2, none⟩ = some (.string t) := by
      rw [cell_of_row w5 w4.heap.size r2 _ _ _ hrow]
      have : r2 = 0 ∨ r2 = 1 ∨ r2 = 2 ∨ r2 = 3 := by omega
      rcases this with rfl | rfl | rfl | rfl
      all_goals exact ⟨_, by decide, rfl⟩
    clear hrow hg hrd4 hB4 hc
    go_wp2_with fail
    refine (pick_pos _ _ a n cap _ 2 (by omega) hrd5 (by omega) (by omega)).mono ?_
    rintro e w6 ⟨y, hy, rfl, _, hg⟩
    have hB6 := below_rd8 hB5 hB5.size hg hg9
    clear hg hrd5 hB5 hc2
    have e3 : IntKind.i64.wrap (1 + (y : Int)) = 1 + (y : Int) := IntWalk.i64_in _ (by omega)
    go_wp2
    (try simp only [Exit.inBlock, Exit.then]); refine bodyPost_ret (results_four rfl _ _ _) rfl ?_
    exact ⟨t2, u2, 4, 1 + (y : Int), by omega, by omega, by omega, by omega, by omega, by omega, rfl, hB6⟩
  · have hq : ((x : Int) == 0) = false := beq_eq_false_iff_ne.2 (by omega)
    go_wp2
    (try simp only [Exit.inBlock, Exit.then]); refine bodyPost_ret (results_four rfl _ _ _) rfl ?_
    exact ⟨t, u, k, v, ht, hu, hk0, hk9, hv0, hv9, rfl, hB3⟩

set_option maxHeartbeats 1000000 in
theorem DrawShelfOfAll_any (w : World) (a : Option Addr) (len cap : Nat) (zs : List Int) (h : IsRowK .u8 w a len cap zs) :
    Calls Try.prog 49 #[.slice a len cap] w fun e w' => ∃ (D : List ByteArray) (a' : Option Addr) (n' c' : Nat) (k v : Int), D.length ≤ 4 ∧ (∀ x ∈ D, x.size ≤ 69) ∧ -1 ≤ k ∧ k ≤ 4 ∧ -1 ≤ v ∧ v ≤ 5 ∧ e = .returned (.tuple #[.slice a' n' c', .int .i64 k, .int .i64 v]) ∧ One w w.heap.size w' 9 1 a' n' c' (strsC D) := by
  go_enter Try.func49, Try.ntmps49
  go_wp2_with fail
  refine (open_any _ _ _ _ _ h).mono ?_
  rintro e w1 ⟨n, rfl, hrd, hb, hs⟩
  go_wp2_with fail
  refine (sizes_any _ _ a n cap 0 (by omega) hrd).mono ?_
  rintro e w2 ⟨k, v, hk0, hk9, hv0, hv9, rfl, hrd2, hg⟩
  have hB2 := below_rdD hb hs hg
  clear hg hrd h hb hs
  go_wp2_with fail
  refine (docs_any _ _ a n cap _ 4 (by omega) (by omega) hrd2).mono ?_
  rintro e w3 ⟨D, a', n', c', hD, hDs, rfl, hown, _, hg⟩
  have hB3 := below_rd8 hB2 hB2.size hg (Nat.le_refl _)
  have ho := own_under hown hB2.size
  clear hg hrd2 hB2 hown
  go_wp2
  (try simp only [Exit.inBlock, Exit.then]); refine bodyPost_ret (results_three8 rfl _ _ _) rfl ?_
  exact ⟨D, a', n', c', k, v, hD, hDs, hk0, hk9, hv0, hv9, rfl, ho, hB3.size, hB3⟩

set_option maxHeartbeats 2000000 in
theorem DrawAsked_any (w : World) (a : Option Addr) (len cap : Nat) (zs : List Int) (h : IsRowK .u8 w a len cap zs) :
    Calls Try.prog 54 #[.slice a len cap] w fun e w' => ∃ (D : List ByteArray) (a' : Option Addr) (n' c' : Nat) (s : ByteArray) (k v m : Int), D.length ≤ 4 ∧ (∀ x ∈ D, x.size ≤ 69) ∧ s.size ≤ 75 ∧ -1 ≤ k ∧ k ≤ 4 ∧ -1 ≤ v ∧ v ≤ 5 ∧ -4 ≤ m ∧ m ≤ 9 ∧ e = .returned (.tuple #[.slice a' n' c', .string s, .int .i64 k, .int .i64 v, .int .i64 m]) ∧ One w w.heap.size w' 9 1 a' n' c' (strsC D) := by
  go_enter Try.func54, Try.ntmps54
  go_wp2_with fail
  refine (open_any _ _ _ _ _ h).mono ?_
  rintro e w1 ⟨n, rfl, hrd, hb, hs⟩
  have hB1 := hb
  have hg9 : w.heap.size ≤ w.heap.size := Nat.le_refl _
  obtain ⟨g, hg0⟩ : ∃ g, w.heap.size = g := ⟨_, rfl⟩
  have hrd : RdAt w1 g a n cap 0 := hg0 ▸ hrd
  have hlt : g < w1.heap.size := by omega
  have hgw : w.heap.size ≤ g := by omega
  rw [hg0]
  clear hb hs h hg9
  go_wp2_with fail
  refine (docs_any _ g a n cap _ 4 (by omega) (by omega) hrd).mono ?_
  rintro e w2 ⟨D, a', n', c', hD, hDs, rfl, hown2, hrd2, hg⟩
  have hB2 := below_rd8 hB1 hB1.size hg hgw
  have hsz := hB1.size
  clear hg hrd hB1
  go_wp2_with fail
  refine (sizes_any _ g a n cap _ (by omega) hrd2).mono ?_
  rintro e w3 ⟨k, v, hk0, hk9, hv0, hv9, rfl, hrd3, hg⟩
  have hB3 := below_rd8 hB2 hB2.size hg hgw
  have hown3 := own_kept8 hown2 hg hlt
  clear hg hrd2 hB2 hown2
  have e1 : IntKind.i64.wrap (k + v) = k + v := IntWalk.i64_in _ (by omega)
  have e2 : IntKind.i64.wrap (k + v - 2) = k + v - 2 := IntWalk.i64_in _ (by omega)
  go_wp2_with fail
  refine (short_any _ g a n cap _ 9 (by omega) (by omega) hrd3).mono ?_
  rintro e w4 ⟨s, hs, rfl, hrd4, hg⟩
  have hB4 := below_rd8 hB3 hB3.size hg hgw
  have hown4 := own_kept8 hown3 hg hlt
  clear hg hrd3 hB3 hown3
  have hnD : n' = D.length := by have h1 := hown4.1; rw [strsC_len] at h1; omega
  have HN := Lib.hid hnD
  have hn9 : n' ≤ 4 := by omega
  clear hnD
  by_cases hL0 : 0 < n'
  · have z2 : (0 : Int) < (n' : Int) := by omega
    go_wp2_with fail
    refine (pick_pos _ g a n cap _ (n' : Int) (by omega) hrd4 (by omega) (by omega)).mono ?_
    rintro e w5 ⟨r, hr, rfl, hrd5, hg⟩
    have hB5 := below_rd8 hB4 hB4.size hg hgw
    have hown5 := own_kept8 hown4 hg hlt
    clear hg hrd4 hB4 hown4
    have hrL : r < D.length := by have := HN.out; omega
    obtain ⟨b1, o1, rfl, _, hc1⟩ := (cellsAt_own hown5).str (fun e => by rw [e] at hrL; simp at hrL)
    have kc := hc1 r hrL
    obtain ⟨x, hx⟩ : ∃ x, D[r] = x := ⟨_, rfl⟩
    rw [hx] at kc
    have hxs : x.size ≤ 69 := hDs x (hx ▸ List.getElem_mem hrL)
    clear hc1 hx
    go_wp2_with fail
    refine (copy_any _ g a n cap _ x 6 (by omega) (by omega) (by omega) hrd5).mono ?_
    rintro e w6 ⟨u, hu, rfl, hrd6, hg⟩
    have hB6 := below_rd8 hB5 hB5.size hg hgw
    have hown6 := own_kept8 hown5 hg hlt
    clear hg hrd5 hB5 hown5 kc
    go_wp2_with fail
    refine (pick_pos _ g a n cap _ 3 (by omega) hrd6 (by omega) (by omega)).mono ?_
    rintro e w7 ⟨y, hy, rfl, _, hg⟩
    have hB7 := below_rd8 hB6 hB6.size hg hgw
    have hown7 := own_under (own_kept8 hown6 hg hlt) hsz
    clear hg hrd6 hB6 hown6
    have e3 : IntKind.i64.wrap (k + v - 2 + (y : Int)) = k + v - 2 + (y : Int) := IntWalk.i64_in _ (by omega)
    go_wp2
    (try simp only [Exit.inBlock, Exit.then]); refine bodyPost_ret (results_five8 rfl _ _ _) rfl ?_
    exact ⟨D, _, n', c', u, k, v, k + v - 2 + (y : Int), hD, hDs, by omega, hk0, hk9, hv0, hv9, by omega, by omega, rfl, hown7, hB7.size, hB7⟩
  · have z2 : ¬ (0 : Int) < (n' : Int) := by omega
    go_wp2_with fail
    refine (pick_pos _ g a n cap _ 3 (by omega) hrd4 (by omega) (by omega)).mono ?_
    rintro e w7 ⟨y, hy, rfl, _, hg⟩
    have hB7 := below_rd8 hB4 hB4.size hg hgw
    have hown7 := own_under (own_kept8 hown4 hg hlt) hsz
    clear hg hrd4 hB4 hown4
    have e3 : IntKind.i64.wrap (k + v - 2 + (y : Int)) = k + v - 2 + (y : Int) := IntWalk.i64_in _ (by omega)
    go_wp2
    (try simp only [Exit.inBlock, Exit.then]); refine bodyPost_ret (results_five8 rfl _ _ _) rfl ?_
    exact ⟨D, a', n', c', s, k, v, k + v - 2 + (y : Int), hD, hDs, by omega, hk0, hk9, hv0, hv9, by omega, by omega, rfl, hown7, hB7.size, hB7⟩

theorem DrawAskAll_any (w : World) (a : Option Addr) (len cap : Nat) (zs : List Int) (h : IsRowK .u8 w a len cap zs) :
    Calls Try.prog 60 #[.slice a len cap] w fun e w' => ∃ (D : List ByteArray) (a' : Option Addr) (n' c' : Nat) (s : ByteArray) (m : Int), D.length ≤ 4 ∧ (∀ x ∈ D, x.size ≤ 69) ∧ s.size ≤ 75 ∧ -4 ≤ m ∧ m ≤ 9 ∧ e = .returned (.tuple #[.slice a' n' c', .string s, .int .i64 m]) ∧ One w w.heap.size w' 9 1 a' n' c' (strsC D) := by
  go_enter Try.func60, Try.ntmps60
  go_wp2_with fail
  refine (DrawAsked_any _ _ _ _ _ h).mono ?_
  rintro e w1 ⟨D, a', n', c', s, k, v, m, hD, hDs, hs, _, _, _, _, hm0, hm9, rfl, ho⟩
  go_wp2
  (try simp only [Exit.inBlock, Exit.then]); refine bodyPost_ret (results_three8 rfl _ _ _) rfl ?_
  exact ⟨D, a', n', c', s, m, hD, hDs, hs, hm0, hm9, rfl, ho⟩

end Go.Proofs.Ytclblnkeakkdeaa
