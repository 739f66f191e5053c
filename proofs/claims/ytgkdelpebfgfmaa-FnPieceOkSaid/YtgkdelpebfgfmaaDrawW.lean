/-
  The contract of the model's draw DrawPieceOk; nothing that was there is written. Condition: the bytes can be read. (Written by wip/tools/ch7_draw2.py.)
-/
import Derived.Test.YtgkdelpebfgfmaaDrawV
import Derived.Deep.Cut
import Derived.Deep.DeepCutAuto
namespace Go.Proofs.Ytgkdelpebfgfmaa
open Go.RowKit

theorem wf7 {n : Int} (h1 : -9223372036854775808 ≤ n) (h2 : n ≤ 9223372036854775807) : (Lit.int .i64 n).wf = true := by
  simp [Lit.wf, IntKind.min, IntKind.max, IntKind.signed, IntKind.bits]
  omega
theorem wf_wrap7 (n : Int) : (Lit.int .i64 (IntKind.i64.wrap n)).wf = true := by
  rw [IntWalk.i64_left]; exact wrap64_wf n
theorem rd_set7 {w : World} {g b : Nat} {a : Option Addr} {n c B : Nat} (h : RdAt w g a n c B) (hb : g < b) (j : Nat) (v : Value) : RdAt (w.setCell ⟨b, j, none⟩ v) g a n c B := RdAt.kept h (fun k hk => Below.heap_setCell _ _ _ _ (show k ≠ b by omega))
theorem piece_set7 (w : World) (g : Nat) (x y z : Int) {u v s : Value} {e : TypeId} (h : w.heap[g]? = some (.cells #[u, v, s] e (0, 0))) :
    (((w.setCell ⟨g, 0, none⟩ (.int .i64 x)).setCell ⟨g, 1, none⟩ (.int .i64 y)).setCell ⟨g, 2, none⟩ (.int .i64 z)).heap[g]? = some (.cells #[.int .i64 x, .int .i64 y, .int .i64 z] e (0, 0)) := by
  have h1 : Side w 0 (.slice none 0 0) e g [u, v, s] := ⟨h, Nat.zero_le _, by simp [Value.ownBlock]⟩
  exact (((h1.set_self 0 (.int .i64 x)).set_self 1 (.int .i64 y)).set_self 2 (.int .i64 z)).at_
theorem piece_set71 (w : World) (g : Nat) (x y z nz : Int) {e : TypeId} (h : w.heap[g]? = some (.cells #[.int .i64 x, .int .i64 y, .int .i64 z] e (0, 0))) :
    (w.setCell ⟨g, 2, none⟩ (.int .i64 nz)).heap[g]? = some (.cells #[.int .i64 x, .int .i64 y, .int .i64 nz] e (0, 0)) := by
  have h1 : Side w 0 (.slice none 0 0) e g [.int .i64 x, .int .i64 y, .int .i64 z] := ⟨h, Nat.zero_le _, by simp [Value.ownBlock]⟩
  exact (h1.set_self 2 (.int .i64 nz)).at_

set_option maxRecDepth 4000 in
set_option maxHeartbeats 16000000 in
theorem DrawPieceOk_any (w : World) (a : Option Addr) (len cap : Nat) (zs : List Int) (h : IsRowK .u8 w a len cap zs) :
    Calls Try.prog 17 #[.slice a len cap] w fun e w' => ∃ (t u : ByteArray) (x y z : Int), t.size ≤ 14 ∧ u.size ≤ 39 ∧ (Lit.int .i64 x).wf = true ∧ (Lit.int .i64 y).wf = true ∧ (Lit.int .i64 z).wf = true ∧ e = .returned (.tuple #[.string t, .string u, .agg #[.int .i64 x, .int .i64 y, .int .i64 z]]) ∧ Below w.heap.size w w' := by
  obtain ⟨hs, hhs⟩ : ∃ hs, w.heap.size = hs := ⟨_, rfl⟩
  have hZ : ∀ w2, w2 = w.alloc (.cells #[.int .i64 0, .int .i64 0, .int .i64 0] 29) → IsRowK .u8 w2 a len cap zs ∧ w2.heap[hs]? = some (.cells #[.int .i64 0, .int .i64 0, .int .i64 0] 29 (0, 0)) ∧ w2.heap.size = hs + 1 ∧ Below hs w w2 := by
    intro w2 e
    subst e hhs
    have hb := (Below.refl w.heap.size w).alloc (Nat.le_refl _) (.cells #[.int .i64 0, .int .i64 0, .int .i64 0] 29)
    refine ⟨?_, heap_alloc_new w _, by simp, hb⟩
    rcases h with h | ⟨x, h1, h2, h3, h4, h5, h6⟩
    · exact .inl h
    · exact .inr ⟨x, h1, h2, h3, h4, fun i hi => (hb.cell (World.block_lt_of_cell? w _ (h5 i hi))).trans (h5 i hi), h6⟩
  have HZ := Lib.hid hZ
  have HHS := Lib.hid hhs
  clear hZ h
  go_enter Try.func17, Try.ntmps17
  go_wp2_with fail
  generalize hw2 : World.alloc _ _ = w2
  obtain ⟨hrow, rr, hsz, hb2⟩ := HZ.out w2 hw2.symm
  clear HZ hw2
  refine (open_any _ _ _ _ _ hrow).mono ?_
  rintro e w3 ⟨n, rfl, hr3, hb3, hs3⟩
  rw [hsz] at hb3 hr3 hs3 ⊢
  have rr := (hb3.block hs (by omega)).trans rr
  have hB3 : Below hs w w3 := hb2.trans (hb3.mono (by omega))
  clear hrow hb3 hb2 hsz hs3
  go_wp2_with fail
  refine (two_any _ _ a n cap 0 (by omega) hr3).mono ?_
  rintro e w4 ⟨t, u, ht, hu, rfl, hr4, hg⟩
  have rr := grown_row rr hg (by omega)
  have hB4 : Below hs w w4 := below_rd7 hB3 (by have := hB3.size; omega) hg (Nat.le_succ _)
  clear hg hr3 hB3
  obtain ⟨L, hL⟩ : ∃ L, piecesT t u 1 = L := ⟨_, rfl⟩
  have cL := fun w => specPieces_any t u 1 L w hL (by omega) (by omega)
  have HL := Lib.hid hL
  clear hL
  go_wp2_with fail
  refine (cL _).mono ?_
  rintro e w5 ⟨gl, m, c, rfl, o5⟩
  have rr := (o5.below.block hs (Array.getElem?_eq_some_iff.1 rr).1).trans rr
  have hB5 : Below hs w w5 := hB4.trans (o5.below.mono (by have := hB4.size; omega))
  have hgl : hs + 1 < gl := by
    have h1 := (o5.own.lt gl (by simp [Value.ownBlock])).1
    have h2 := hr4.lt
    omega
  have hr5 : RdAt w5 (hs + 1) a n cap 700 := RdAt.kept hr4 (fun k hk => o5.below.block k (by have := hr4.lt; omega))
  have HM := Lib.hid (ents_len7 o5.own)
  have EL := o5.at_
  have hm9 : m ≤ 1000 := by
    have h1 := HM.out
    have h2 := piecesN_len t u 1 t.size
    rw [← piecesT_nat (by decide), show ((1 : Nat) : Int) = 1 from rfl, HL.out] at h2
    have h3 : t.size * u.size ≤ 14 * 39 := Nat.mul_le_mul ht hu
    omega
  clear hr4 hB4 o5 cL
  go_wp2_with fail
  refine (pick_pos _ _ a n cap 700 ((t.size : Int) + 2) (by omega) hr5 (by omega) (by omega)).mono ?_
  rintro e w6 ⟨x1, hx1, rfl, hr6, hg⟩
  have hB6 : Below hs w w6 := below_rd7 hB5 (by have := hB5.size; omega) hg (Nat.le_succ _)
  have rr := grown_row rr hg (by omega)
  have EL := EL.grown hg (by intro b o hh; simp only [Option.some.injEq, Addr.mk.injEq] at hh; simp only [ne_eq, Option.some.injEq]; omega)
  clear hg hr5 hB5
  go_wp2_with fail
  refine (pick_pos _ _ a n cap 701 9 (by omega) hr6 (by omega) (by omega)).mono ?_
  rintro e w7 ⟨y1, hy1, rfl, hr7, hg⟩
  have hB7 : Below hs w w7 := below_rd7 hB6 (by have := hB6.size; omega) hg (Nat.le_succ _)
  have rr := grown_row rr hg (by omega)
  have EL := EL.grown hg (by intro b o hh; simp only [Option.some.injEq, Addr.mk.injEq] at hh; simp only [ne_eq, Option.some.injEq]; omega)
  clear hg hr6 hB6
  have ey1 : (y1 : Int).tdiv 8 = ((y1 / 8 : Nat) : Int) := (Int.ofNat_tdiv y1 8).symm
  obtain ⟨dy1, hdy1⟩ : ∃ d, y1 / 8 = d := ⟨_, rfl⟩
  rw [hdy1] at ey1
  have hd1y1 : dy1 ≤ 1 := by omega
  clear hdy1
  go_wp2_with fail
  refine (pick_pos _ _ a n cap 702 ((u.size : Int) + 2) (by omega) hr7 (by omega) (by omega)).mono ?_
  rintro e w8 ⟨x2, hx2, rfl, hr8, hg⟩
  have hB8 : Below hs w w8 := below_rd7 hB7 (by have := hB7.size; omega) hg (Nat.le_succ _)
  have rr := grown_row rr hg (by omega)
  have EL := EL.grown hg (by intro b o hh; simp only [Option.some.injEq, Addr.mk.injEq] at hh; simp only [ne_eq, Option.some.injEq]; omega)
  clear hg hr7 hB7
  go_wp2_with fail
  refine (pick_pos _ _ a n cap 703 9 (by omega) hr8 (by omega) (by omega)).mono ?_
  rintro e w9 ⟨y2, hy2, rfl, hr9, hg⟩
  have hB9 : Below hs w w9 := below_rd7 hB8 (by have := hB8.size; omega) hg (Nat.le_succ _)
  have rr := grown_row rr hg (by omega)
  have EL := EL.grown hg (by intro b o hh; simp only [Option.some.injEq, Addr.mk.injEq] at hh; simp only [ne_eq, Option.some.injEq]; omega)
  clear hg hr8 hB8
  have ey2 : (y2 : Int).tdiv 8 = ((y2 / 8 : Nat) : Int) := (Int.ofNat_tdiv y2 8).symm
  obtain ⟨dy2, hdy2⟩ : ∃ d, y2 / 8 = d := ⟨_, rfl⟩
  rw [hdy2] at ey2
  have hd1y2 : dy2 ≤ 1 := by omega
  clear hdy2
  go_wp2_with fail
  refine (pick_pos _ _ a n cap 704 6 (by omega) hr9 (by omega) (by omega)).mono ?_
  rintro e w10 ⟨x3, hx3, rfl, hr10, hg⟩
  have hB10 : Below hs w w10 := below_rd7 hB9 (by have := hB9.size; omega) hg (Nat.le_succ _)
  have rr := grown_row rr hg (by omega)
  have EL := EL.grown hg (by intro b o hh; simp only [Option.some.injEq, Addr.mk.injEq] at hh; simp only [ne_eq, Option.some.injEq]; omega)
  clear hg hr9 hB9
  obtain ⟨px, hpx⟩ : ∃ z : Int, (x1 : Int) - (dy1 : Int) = z := ⟨_, rfl⟩
  obtain ⟨py, hpy⟩ : ∃ z : Int, (x2 : Int) - (dy2 : Int) = z := ⟨_, rfl⟩
  have WX := Lib.hid (wf7 (n := px) (by omega) (by omega))
  have WY := Lib.hid (wf7 (n := py) (by omega) (by omega))
  have WZ := Lib.hid (wf7 (n := (x3 : Int)) (by omega) (by omega))
  have vx : IntKind.i64.wrap px = px := IntWalk.i64_in _ (by omega)
  have vy : IntKind.i64.wrap py = py := IntWalk.i64_in _ (by omega)
  obtain ⟨pz, hpz⟩ : ∃ z : Int, (x3 : Int) = z := ⟨_, rfl⟩
  rw [hpz] at WZ
  obtain ⟨gp, hgp⟩ : ∃ gp, w10.heap.size = gp := ⟨_, rfl⟩
  have hgp9 : hs + 1 < gp := by rw [← hgp]; exact hr10.lt
  have HX : ∀ w', w' = w10.alloc (.cells #[.int .i64 px, .int .i64 py, .int .i64 pz] 29) → w'.heap[gp]? = some (.cells #[.int .i64 px, .int .i64 py, .int .i64 pz] 29 (0, 0)) ∧ w'.heap[hs]? = some (.cells #[.int .i64 0, .int .i64 0, .int .i64 0] 29 (0, 0)) ∧ Below hs w w' ∧ RdAt w' (hs + 1) a n cap 705 ∧ CellsAt w' (some ⟨gl, 0, none⟩) (entsC L) := by
    intro w' e
    rw [e, ← hgp]
    exact ⟨heap_alloc_new w10 _, (heap_alloc_old w10 _ (Array.getElem?_eq_some_iff.1 rr).1).trans rr, hB10.alloc (by have := hB10.size; omega) _, RdAt.kept hr10 (fun k hk => heap_alloc_old w10 _ (by omega)), EL.allocW _⟩
  have HX := Lib.hid HX
  have HGP := Lib.hid hgp
  have HPX := Lib.hid hpx
  clear rr EL hr10 hB10 hgp
  by_cases hm0 : 0 < m
  · have hm0i : (0 : Int) < (m : Int) := by omega
    go_wp2_with fail
    obtain ⟨w11, hw11⟩ : ∃ w9, w10.alloc (.cells #[.int .i64 px, .int .i64 py, .int .i64 pz] 29) = w9 := ⟨_, rfl⟩
    obtain ⟨rp, rr, hB11, hr11, EL⟩ := HX.out w11 hw11.symm
    rw [hw11, HGP.out]
    clear hw11 HX HGP hpx hpy hpz vx vy
    refine (pick_pos _ _ a n cap 705 3 (by omega) hr11 (by omega) (by omega)).mono ?_
    rintro e w12 ⟨q1, hq1, rfl, hr12, hg⟩
    have hB12 : Below hs w w12 := below_rd7 hB11 (by have := hB11.size; omega) hg (Nat.le_succ _)
    have rr := grown_row rr hg (by omega)
    have rp := grown_row rp hg (by omega)
    have EL := EL.grown hg (by intro b o hh; simp only [Option.some.injEq, Addr.mk.injEq] at hh; simp only [ne_eq, Option.some.injEq]; omega)
    clear hg hr11 hB11
    by_cases hq0 : 0 < q1
    · have hq0i : (0 : Int) < (q1 : Int) := by omega
      go_wp2_with fail
      refine (pick_pos _ _ a n cap 706 (m : Int) (by omega) hr12 (by omega) (by omega)).mono ?_
      rintro e w13 ⟨k, hk, rfl, hr13, hg⟩
      have hB13 : Below hs w w13 := below_rd7 hB12 (by have := hB12.size; omega) hg (Nat.le_succ _)
      have rr := grown_row rr hg (by omega)
      have rp := grown_row rp hg (by omega)
      have EL := EL.grown hg (by intro b o hh; simp only [Option.some.injEq, Addr.mk.injEq] at hh; simp only [ne_eq, Option.some.injEq]; omega)
      clear hg hr12 hB12
      have hkl : k < L.length := by have := HM.out; omega
      obtain ⟨X, hX⟩ : ∃ x, L[k].1 = x := ⟨_, rfl⟩
      obtain ⟨Y, hY⟩ : ∃ x, L[k].2.1 = x := ⟨_, rfl⟩
      obtain ⟨Z, hZ⟩ : ∃ x, L[k].2.2 = x := ⟨_, rfl⟩
      have hm : L[k] = (X, Y, Z) := by rw [← hX, ← hY, ← hZ]
      have hmem : (X, Y, Z) ∈ piecesT t u ((1 : Nat) : Int) := by rw [show ((1 : Nat) : Int) = 1 from rfl, HL.out, ← hm]; exact List.getElem_mem hkl
      obtain ⟨pi, pj, hst, hpc⟩ := (pieces_mem (by decide)).1 hmem
      have hst1 := hst.1.1
      have hst2 := hst.1.2.1
      simp only [pieceN, Prod.mk.injEq] at hpc
      obtain ⟨b, o, hbo, _, e1, e2, e3⟩ := ent_cells EL hkl hm
      simp only [Option.some.injEq, Addr.mk.injEq, and_true] at hbo
      obtain ⟨rfl, rfl⟩ := hbo
      rw [Nat.zero_add] at e1 e2 e3
      clear WX WY WZ
      have WX := Lib.hid (wf7 (n := X) (by omega) (by omega))
      have WY := Lib.hid (wf7 (n := Y) (by omega) (by omega))
      have p1 := cell_of_row w13 gp 0 _ _ _ rp
      have p2 := cell_of_row w13 gp 1 _ _ _ rp
      have p3 := cell_of_row w13 gp 2 _ _ _ rp
      have o1 := frozen_of_row w13 gp 0 _ _ rp
      have o2 := frozen_of_row w13 gp 1 _ _ rp
      have o3 := frozen_of_row w13 gp 2 _ _ rp
      have z0 : (0 : Int) ≤ (k : Int) := by omega
      clear hX hY hZ hm hmem hst hst1 hst2 hpc EL HL
      go_wp2
      clear p1 p2 p3 o1 o2 o3 e1 e2 e3 hkl z0
      obtain ⟨w14, hw14⟩ : ∃ w9, (((w13.setCell ⟨gp, 0, none⟩ (.int .i64 X)).setCell ⟨gp, 1, none⟩ (.int .i64 Y)).setCell ⟨gp, 2, none⟩ (.int .i64 Z)) = w9 := ⟨_, rfl⟩
      rw [hw14]
      have hx : w14.heap[gp]? = some (.cells #[.int .i64 X, .int .i64 Y, .int .i64 Z] 29 (0, 0)) ∧ w14.heap[hs]? = some (.cells #[.int .i64 0, .int .i64 0, .int .i64 0] 29 (0, 0)) ∧ Below hs w w14 ∧ RdAt w14 (hs + 1) a n cap 707 := by
        rw [← hw14]
        exact ⟨piece_set7 w13 gp _ _ _ rp, row_set7 (g := gp) (row_set7 (g := gp) (row_set7 (g := gp) rr (by omega) _ _) (by omega) _ _) (by omega) _ _, ((hB13.setCell (p := ⟨gp, 0, none⟩) (by show hs ≤ gp; omega) _).setCell (p := ⟨gp, 1, none⟩) (by show hs ≤ gp; omega) _).setCell (p := ⟨gp, 2, none⟩) (by show hs ≤ gp; omega) _, rd_set7 (rd_set7 (rd_set7 hr13 hgp9 0 _) hgp9 1 _) hgp9 2 _⟩
      clear hw14 rp rr hB13 hr13
      obtain ⟨rp, rr, hB14, hr14⟩ := hx
      have rr14 := rr
      have rp14 := rp
      clear rr rp
      have kp14 := cell_of_row w14 gp 2 _ _ _ rp14
      go_upto_region 7 with fail
      go_cut [] (fun wx => ∃ nz : Int, Hid ((Lit.int .i64 nz).wf = true) ∧ wx.heap[gp]? = some (.cells #[.int .i64 X, .int .i64 Y, .int .i64 nz] 29 (0, 0)) ∧ wx.heap[hs]? = some (.cells #[.int .i64 0, .int .i64 0, .int .i64 0] 29 (0, 0)) ∧ Below hs w wx ∧ RdAt wx (hs + 1) a n cap 709)
      case first =>
        go_region_with (first
          | (go_at_call 30; refine (pick_pos _ (hs + 1) a n cap 708 _ (by omega) (by first | exact hr15 | exact RdAt.drew7 hr15) (by omega) (by omega)).mono ?_; rintro e w16 ⟨q3, hq3, rfl, hr16, hg⟩; have rr16 := grown_row (by first | exact rr15 | exact row_drew7 rr15) hg (by omega); have rp16 := grown_row (by first | exact rp15 | exact row_drew7 rp15) hg (by omega); have hB16 : Below hs w w16 := below_rd7 (by first | exact hB15 | exact Below.drew hB15) (by have := hB15.size; simpa using (by omega)) hg (Nat.le_succ _); have kp16 := cell_of_row w16 gp 2 _ _ _ rp16; have kf16 := frozen_of_row w16 gp 2 _ _ rp16; clear hg)
          | (go_at_call 30; refine (pick_pos _ (hs + 1) a n cap 707 _ (by omega) (by first | exact hr14 | exact RdAt.drew7 hr14) (by omega) (by omega)).mono ?_; rintro e w15 ⟨q2, hq2, rfl, hr15, hg⟩; have rr15 := grown_row (by first | exact rr14 | exact row_drew7 rr14) hg (by omega); have rp15 := grown_row (by first | exact rp14 | exact row_drew7 rp14) hg (by omega); have hB15 : Below hs w w15 := below_rd7 (by first | exact hB14 | exact Below.drew hB14) (by have := hB14.size; simpa using (by omega)) hg (Nat.le_succ _); have kp15 := cell_of_row w15 gp 2 _ _ _ rp15; have kf15 := frozen_of_row w15 gp 2 _ _ rp15; clear hg))
        all_goals (
          have rr := rr16
          have rp := rp16
          clear rr14 rp14 kp14 rr15 rp15 kp15 kf15 rr16 rp16 kp16 kf16 hr14 hr15 hB14 hB15
          go_wp2
          go_meet
          exact ⟨_, Lib.hid (wf_wrap7 _), piece_set71 w16 gp _ _ _ _ rp, row_set7 (g := gp) rr (by omega) _ _, hB16.setCell (p := ⟨gp, 2, none⟩) (by show hs ≤ gp; omega) _, rd_set7 hr16 hgp9 2 _⟩)
      case rest =>
        clear rr14 rp14 kp14 hB14 hr14
        obtain ⟨nz, WZ, rp, rr, hB17, hr17⟩ := hcut
        obtain ⟨w17, rfl⟩ : ∃ w9, w9 = wc := ⟨_, rfl⟩
        go_wp2_with fail
        refine (pick_pos _ _ a n cap 709 15 (by omega) hr17 (by omega) (by omega)).mono ?_
        rintro e w18 ⟨l1, hl1, rfl, hr18, hg⟩
        have hB18 : Below hs w w18 := below_rd7 hB17 (by have := hB17.size; omega) hg (Nat.le_succ _)
        have rr := grown_row rr hg (by omega)
        have rp := grown_row rp hg (by omega)
        clear hg hr17 hB17
        by_cases hl0 : l1 = 0
        · subst hl0
          clear WX WY WZ hl1
          go_wp2_with fail
          obtain ⟨gq, hgq⟩ : ∃ gq, w18.heap.size = gq := ⟨_, rfl⟩
          have hgq9 : gp < gq := by rw [← hgq]; exact (Array.getElem?_eq_some_iff.1 rp).1
          obtain ⟨w19, hw19⟩ : ∃ w9, w18.alloc (.cells #[.int .i64 4611686018427387904, .int .i64 0, .int .i64 4611686018427387904, .int .i64 0, .int .i64 9223372036854775807, .int .i64 1, .int .i64 0, .int .i64 0, .int .i64 9223372036854775807] 29) = w9 := ⟨_, rfl⟩
          have hx : w19.heap[gq]? = some (.cells #[.int .i64 4611686018427387904, .int .i64 0, .int .i64 4611686018427387904, .int .i64 0, .int .i64 9223372036854775807, .int .i64 1, .int .i64 0, .int .i64 0, .int .i64 9223372036854775807] 29 (0, 0)) ∧ w19.heap[gp]? = some (.cells #[.int .i64 X, .int .i64 Y, .int .i64 nz] 29 (0, 0)) ∧ w19.heap[hs]? = some (.cells #[.int .i64 0, .int .i64 0, .int .i64 0] 29 (0, 0)) ∧ Below hs w w19 ∧ RdAt w19 (hs + 1) a n cap 710 := by
            rw [← hw19, ← hgq]
            exact ⟨heap_alloc_new w18 _, (heap_alloc_old w18 _ (Array.getElem?_eq_some_iff.1 rp).1).trans rp, (heap_alloc_old w18 _ (Array.getElem?_eq_some_iff.1 rr).1).trans rr, hB18.alloc (by have := hB18.size; omega) _, RdAt.kept hr18 (fun k hk => heap_alloc_old w18 _ (by omega))⟩
          rw [hw19, hgq]
          clear rp rr hw19 hgq hr18 hB18
          obtain ⟨rq, rp, rr, hB19, hr19⟩ := hx
          refine (pick_pos _ _ a n cap 710 3 (by omega) hr19 (by omega) (by omega)).mono ?_
          rintro e w20 ⟨l2, hl2, rfl, hr20, hg⟩
          have hB20 : Below hs w w20 := below_rd7 hB19 (by have := hB19.size; omega) hg (Nat.le_succ _)
          have rr := grown_row rr hg (by omega)
          have rp := grown_row rp hg (by omega)
          have rq := grown_row rq hg (by omega)
          clear hg hr19 hB19
          have hl3 : l2 = 0 ∨ l2 = 1 ∨ l2 = 2 := by omega
          have p1 := cell_of_row w20 gp 0 _ _ _ rp
          have p2 := cell_of_row w20 gp 1 _ _ _ rp
          have p3 := cell_of_row w20 gp 2 _ _ _ rp
          have o1 := frozen_of_row w20 gp 0 _ _ rp
          have o2 := frozen_of_row w20 gp 1 _ _ rp
          have o3 := frozen_of_row w20 gp 2 _ _ rp
          clear hl2
          rcases hl3 with rfl | rfl | rfl
          · have q1 := cell_of_row w20 gq 0 _ _ _ rq
            have q2 := cell_of_row w20 gq 1 _ _ _ rq
            have q3 := cell_of_row w20 gq 2 _ _ _ rq
            have WX := Lib.hid (wf7 (n := 4611686018427387904) (by omega) (by omega))
            have WY := Lib.hid (wf7 (n := 0) (by omega) (by omega))
            have WZ := Lib.hid (wf7 (n := 4611686018427387904) (by omega) (by omega))
            go_wp2
            clear q1 q2 q3 p1 p2 p3 o1 o2 o3 rq
            obtain ⟨w21, hw21⟩ : ∃ w9, (((w20.setCell ⟨gp, 0, none⟩ (.int .i64 4611686018427387904)).setCell ⟨gp, 1, none⟩ (.int .i64 0)).setCell ⟨gp, 2, none⟩ (.int .i64 4611686018427387904)) = w9 := ⟨_, rfl⟩
            rw [hw21]
            have hx : w21.heap[gp]? = some (.cells #[.int .i64 4611686018427387904, .int .i64 0, .int .i64 4611686018427387904] 29 (0, 0)) ∧ w21.heap[hs]? = some (.cells #[.int .i64 0, .int .i64 0, .int .i64 0] 29 (0, 0)) ∧ Below hs w w21 ∧ RdAt w21 (hs + 1) a n cap 711 := by
              rw [← hw21]
              exact ⟨piece_set7 w20 gp _ _ _ rp, row_set7 (g := gp) (row_set7 (g := gp) (row_set7 (g := gp) rr (by omega) _ _) (by omega) _ _) (by omega) _ _, ((hB20.setCell (p := ⟨gp, 0, none⟩) (by show hs ≤ gp; omega) _).setCell (p := ⟨gp, 1, none⟩) (by show hs ≤ gp; omega) _).setCell (p := ⟨gp, 2, none⟩) (by show hs ≤ gp; omega) _, rd_set7 (rd_set7 (rd_set7 hr20 hgp9 0 _) hgp9 1 _) hgp9 2 _⟩
            clear hw21 rp rr hB20 hr20
            obtain ⟨rp, rr, hB21, hr21⟩ := hx
            have j1 := cell_of_row w21 gp 0 _ _ _ rp
            have j2 := cell_of_row w21 gp 1 _ _ _ rp
            have j3 := cell_of_row w21 gp 2 _ _ _ rp
            have f1 := frozen_of_row w21 hs 0 _ _ rr
            have f2 := frozen_of_row w21 hs 1 _ _ rr
            have f3 := frozen_of_row w21 hs 2 _ _ rr
            have g1 := cell_of_row w21 hs 0 _ _ _ rr
            have g2 := cell_of_row w21 hs 1 _ _ _ rr
            have g3 := cell_of_row w21 hs 2 _ _ _ rr
            have HRR := Lib.hid rr
            have rz := row_set7 (g := hs) (row_set7 (g := hs) (row_set7 (g := hs) rp (by omega) 0 (.int .i64 4611686018427387904)) (by omega) 1 (.int .i64 0)) (by omega) 2 (.int .i64 4611686018427387904)
            have kz := And.intro (cell_of_row _ gp 0 _ _ _ rz) (And.intro (cell_of_row _ gp 1 _ _ _ rz) (cell_of_row _ gp 2 _ _ _ rz))
            clear hr21 rp rr rz
            go_wp2
            go_region_held3 (fun w' => w'.cell? ⟨gp, 0, none⟩ = some (.int .i64 4611686018427387904) ∧ w'.cell? ⟨gp, 1, none⟩ = some (.int .i64 0) ∧ w'.cell? ⟨gp, 2, none⟩ = some (.int .i64 4611686018427387904)) (first | go_keep | exact kz) ((fail))
            have r1 := cell_of_row7 w21 hs 4611686018427387904 0 4611686018427387904 HRR.out
            obtain ⟨r1, r2, r3⟩ := r1
            go_wp2
            refine bodyPost_ret (v := .tuple #[.string t, .string u, .agg #[.int .i64 4611686018427387904, .int .i64 0, .int .i64 4611686018427387904]]) (by simp [results, Try.results17, go_sem, r1, r2, r3]) rfl ⟨t, u, 4611686018427387904, 0, 4611686018427387904, ht, hu, WX.out, WY.out, WZ.out, rfl, ?_⟩
            rw [HHS.out]
            exact Below.drew (((hB21.setCell (p := ⟨hs, 0, none⟩) (Nat.le_refl _) _).setCell (p := ⟨hs, 1, none⟩) (Nat.le_refl _) _).setCell (p := ⟨hs, 2, none⟩) (Nat.le_refl _) _)
          · have q1 := cell_of_row w20 gq 3 _ _ _ rq
            have q2 := cell_of_row w20 gq 4 _ _ _ rq
            have q3 := cell_of_row w20 gq 5 _ _ _ rq
            have WX := Lib.hid (wf7 (n := 0) (by omega) (by omega))
            have WY := Lib.hid (wf7 (n := 9223372036854775807) (by omega) (by omega))
            have WZ := Lib.hid (wf7 (n := 1) (by omega) (by omega))
            go_wp2
            clear q1 q2 q3 p1 p2 p3 o1 o2 o3 rq
            obtain ⟨w21, hw21⟩ : ∃ w9, (((w20.setCell ⟨gp, 0, none⟩ (.int .i64 0)).setCell ⟨gp, 1, none⟩ (.int .i64 9223372036854775807)).setCell ⟨gp, 2, none⟩ (.int .i64 1)) = w9 := ⟨_, rfl⟩
            rw [hw21]
            have hx : w21.heap[gp]? = some (.cells #[.int .i64 0, .int .i64 9223372036854775807, .int .i64 1] 29 (0, 0)) ∧ w21.heap[hs]? = some (.cells #[.int .i64 0, .int .i64 0, .int .i64 0] 29 (0, 0)) ∧ Below hs w w21 ∧ RdAt w21 (hs + 1) a n cap 711 := by
              rw [← hw21]
              exact ⟨piece_set7 w20 gp _ _ _ rp, row_set7 (g := gp) (row_set7 (g := gp) (row_set7 (g := gp) rr (by omega) _ _) (by omega) _ _) (by omega) _ _, ((hB20.setCell (p := ⟨gp, 0, none⟩) (by show hs ≤ gp; omega) _).setCell (p := ⟨gp, 1, none⟩) (by show hs ≤ gp; omega) _).setCell (p := ⟨gp, 2, none⟩) (by show hs ≤ gp; omega) _, rd_set7 (rd_set7 (rd_set7 hr20 hgp9 0 _) hgp9 1 _) hgp9 2 _⟩
            clear hw21 rp rr hB20 hr20
            obtain ⟨rp, rr, hB21, hr21⟩ := hx
            have j1 := cell_of_row w21 gp 0 _ _ _ rp
            have j2 := cell_of_row w21 gp 1 _ _ _ rp
            have j3 := cell_of_row w21 gp 2 _ _ _ rp
            have f1 := frozen_of_row w21 hs 0 _ _ rr
            have f2 := frozen_of_row w21 hs 1 _ _ rr
            have f3 := frozen_of_row w21 hs 2 _ _ rr
            have g1 := cell_of_row w21 hs 0 _ _ _ rr
            have g2 := cell_of_row w21 hs 1 _ _ _ rr
            have g3 := cell_of_row w21 hs 2 _ _ _ rr
            have HRR := Lib.hid rr
            have rz := row_set7 (g := hs) (row_set7 (g := hs) (row_set7 (g := hs) rp (by omega) 0 (.int .i64 0)) (by omega) 1 (.int .i64 9223372036854775807)) (by omega) 2 (.int .i64 1)
            have kz := And.intro (cell_of_row _ gp 0 _ _ _ rz) (And.intro (cell_of_row _ gp 1 _ _ _ rz) (cell_of_row _ gp 2 _ _ _ rz))
            clear hr21 rp rr rz
            go_wp2
            go_region_held3 (fun w' => w'.cell? ⟨gp, 0, none⟩ = some (.int .i64 0) ∧ w'.cell? ⟨gp, 1, none⟩ = some (.int .i64 9223372036854775807) ∧ w'.cell? ⟨gp, 2, none⟩ = some (.int .i64 1)) (first | go_keep | exact kz) ((fail))
            have r1 := cell_of_row7 w21 hs 0 9223372036854775807 1 HRR.out
            obtain ⟨r1, r2, r3⟩ := r1
            go_wp2
            refine bodyPost_ret (v := .tuple #[.string t, .string u, .agg #[.int .i64 0, .int .i64 9223372036854775807, .int .i64 1]]) (by simp [results, Try.results17, go_sem, r1, r2, r3]) rfl ⟨t, u, 0, 9223372036854775807, 1, ht, hu, WX.out, WY.out, WZ.out, rfl, ?_⟩
            rw [HHS.out]
            exact Below.drew (((hB21.setCell (p := ⟨hs, 0, none⟩) (Nat.le_refl _) _).setCell (p := ⟨hs, 1, none⟩) (Nat.le_refl _) _).setCell (p := ⟨hs, 2, none⟩) (Nat.le_refl _) _)
          · have q1 := cell_of_row w20 gq 6 _ _ _ rq
            have q2 := cell_of_row w20 gq 7 _ _ _ rq
            have q3 := cell_of_row w20 gq 8 _ _ _ rq
            have WX := Lib.hid (wf7 (n := 0) (by omega) (by omega))
            have WY := Lib.hid (wf7 (n := 0) (by omega) (by omega))
            have WZ := Lib.hid (wf7 (n := 9223372036854775807) (by omega) (by omega))
            go_wp2
            clear q1 q2 q3 p1 p2 p3 o1 o2 o3 rq
            obtain ⟨w21, hw21⟩ : ∃ w9, (((w20.setCell ⟨gp, 0, none⟩ (.int .i64 0)).setCell ⟨gp, 1, none⟩ (.int .i64 0)).setCell ⟨gp, 2, none⟩ (.int .i64 9223372036854775807)) = w9 := ⟨_, rfl⟩
            rw [hw21]
            have hx : w21.heap[gp]? = some (.cells #[.int .i64 0, .int .i64 0, .int .i64 9223372036854775807] 29 (0, 0)) ∧ w21.heap[hs]? = some (.cells #[.int .i64 0, .int .i64 0, .int .i64 0] 29 (0, 0)) ∧ Below hs w w21 ∧ RdAt w21 (hs + 1) a n cap 711 := by
              rw [← hw21]
              exact ⟨piece_set7 w20 gp _ _ _ rp, row_set7 (g := gp) (row_set7 (g := gp) (row_set7 (g := gp) rr (by omega) _ _) (by omega) _ _) (by omega) _ _, ((hB20.setCell (p := ⟨gp, 0, none⟩) (by show hs ≤ gp; omega) _).setCell (p := ⟨gp, 1, none⟩) (by show hs ≤ gp; omega) _).setCell (p := ⟨gp, 2, none⟩) (by show hs ≤ gp; omega) _, rd_set7 (rd_set7 (rd_set7 hr20 hgp9 0 _) hgp9 1 _) hgp9 2 _⟩
            clear hw21 rp rr hB20 hr20
            obtain ⟨rp, rr, hB21, hr21⟩ := hx
            have j1 := cell_of_row w21 gp 0 _ _ _ rp
            have j2 := cell_of_row w21 gp 1 _ _ _ rp
            have j3 := cell_of_row w21 gp 2 _ _ _ rp
            have f1 := frozen_of_row w21 hs 0 _ _ rr
            have f2 := frozen_of_row w21 hs 1 _ _ rr
            have f3 := frozen_of_row w21 hs 2 _ _ rr
            have g1 := cell_of_row w21 hs 0 _ _ _ rr
            have g2 := cell_of_row w21 hs 1 _ _ _ rr
            have g3 := cell_of_row w21 hs 2 _ _ _ rr
            have HRR := Lib.hid rr
            have rz := row_set7 (g := hs) (row_set7 (g := hs) (row_set7 (g := hs) rp (by omega) 0 (.int .i64 0)) (by omega) 1 (.int .i64 0)) (by omega) 2 (.int .i64 9223372036854775807)
            have kz := And.intro (cell_of_row _ gp 0 _ _ _ rz) (And.intro (cell_of_row _ gp 1 _ _ _ rz) (cell_of_row _ gp 2 _ _ _ rz))
            clear hr21 rp rr rz
            go_wp2
            go_region_held3 (fun w' => w'.cell? ⟨gp, 0, none⟩ = some (.int .i64 0) ∧ w'.cell? ⟨gp, 1, none⟩ = some (.int .i64 0) ∧ w'.cell? ⟨gp, 2, none⟩ = some (.int .i64 9223372036854775807)) (first | go_keep | exact kz) ((fail))
            have r1 := cell_of_row7 w21 hs 0 0 9223372036854775807 HRR.out
            obtain ⟨r1, r2, r3⟩ := r1
            go_wp2
            refine bodyPost_ret (v := .tuple #[.string t, .string u, .agg #[.int .i64 0, .int .i64 0, .int .i64 9223372036854775807]]) (by simp [results, Try.results17, go_sem, r1, r2, r3]) rfl ⟨t, u, 0, 0, 9223372036854775807, ht, hu, WX.out, WY.out, WZ.out, rfl, ?_⟩
            rw [HHS.out]
            exact Below.drew (((hB21.setCell (p := ⟨hs, 0, none⟩) (Nat.le_refl _) _).setCell (p := ⟨hs, 1, none⟩) (Nat.le_refl _) _).setCell (p := ⟨hs, 2, none⟩) (Nat.le_refl _) _)
        · have hb : ((l1 : Int) == 0) = false := beq_eq_false_iff_ne.2 (by omega)
          have j1 := cell_of_row w18 gp 0 _ _ _ rp
          have j2 := cell_of_row w18 gp 1 _ _ _ rp
          have j3 := cell_of_row w18 gp 2 _ _ _ rp
          have f1 := frozen_of_row w18 hs 0 _ _ rr
          have f2 := frozen_of_row w18 hs 1 _ _ rr
          have f3 := frozen_of_row w18 hs 2 _ _ rr
          have g1 := cell_of_row w18 hs 0 _ _ _ rr
          have g2 := cell_of_row w18 hs 1 _ _ _ rr
          have g3 := cell_of_row w18 hs 2 _ _ _ rr
          have HRR := Lib.hid rr
          have rz := row_set7 (g := hs) (row_set7 (g := hs) (row_set7 (g := hs) rp (by omega) 0 (.int .i64 X)) (by omega) 1 (.int .i64 Y)) (by omega) 2 (.int .i64 nz)
          have kz := And.intro (cell_of_row _ gp 0 _ _ _ rz) (And.intro (cell_of_row _ gp 1 _ _ _ rz) (cell_of_row _ gp 2 _ _ _ rz))
          clear hr18 rp rr rz
          go_wp2
          go_region_held3 (fun w' => w'.cell? ⟨gp, 0, none⟩ = some (.int .i64 X) ∧ w'.cell? ⟨gp, 1, none⟩ = some (.int .i64 Y) ∧ w'.cell? ⟨gp, 2, none⟩ = some (.int .i64 nz)) (first | go_keep | exact kz) ((fail))
          have r1 := cell_of_row7 w18 hs X Y nz HRR.out
          obtain ⟨r1, r2, r3⟩ := r1
          go_wp2
          refine bodyPost_ret (v := .tuple #[.string t, .string u, .agg #[.int .i64 X, .int .i64 Y, .int .i64 nz]]) (by simp [results, Try.results17, go_sem, r1, r2, r3]) rfl ⟨t, u, X, Y, nz, ht, hu, WX.out, WY.out, WZ.out, rfl, ?_⟩
          rw [HHS.out]
          exact Below.drew (((hB18.setCell (p := ⟨hs, 0, none⟩) (Nat.le_refl _) _).setCell (p := ⟨hs, 1, none⟩) (Nat.le_refl _) _).setCell (p := ⟨hs, 2, none⟩) (Nat.le_refl _) _)
    · have hq0i : ¬ (0 : Int) < (q1 : Int) := by omega
      clear EL HL
      go_wp2_with fail
      refine (pick_pos _ _ a n cap 706 15 (by omega) hr12 (by omega) (by omega)).mono ?_
      rintro e w13 ⟨l1, hl1, rfl, hr13, hg⟩
      have hB13 : Below hs w w13 := below_rd7 hB12 (by have := hB12.size; omega) hg (Nat.le_succ _)
      have rr := grown_row rr hg (by omega)
      have rp := grown_row rp hg (by omega)
      clear hg hr12 hB12
      by_cases hl0 : l1 = 0
      · subst hl0
        clear WX WY WZ hl1
        go_wp2_with fail
        obtain ⟨gq, hgq⟩ : ∃ gq, w13.heap.size = gq := ⟨_, rfl⟩
        have hgq9 : gp < gq := by rw [← hgq]; exact (Array.getElem?_eq_some_iff.1 rp).1
        obtain ⟨w14, hw14⟩ : ∃ w9, w13.alloc (.cells #[.int .i64 4611686018427387904, .int .i64 0, .int .i64 4611686018427387904, .int .i64 0, .int .i64 9223372036854775807, .int .i64 1, .int .i64 0, .int .i64 0, .int .i64 9223372036854775807] 29) = w9 := ⟨_, rfl⟩
        have hx : w14.heap[gq]? = some (.cells #[.int .i64 4611686018427387904, .int .i64 0, .int .i64 4611686018427387904, .int .i64 0, .int .i64 9223372036854775807, .int .i64 1, .int .i64 0, .int .i64 0, .int .i64 9223372036854775807] 29 (0, 0)) ∧ w14.heap[gp]? = some (.cells #[.int .i64 px, .int .i64 py, .int .i64 pz] 29 (0, 0)) ∧ w14.heap[hs]? = some (.cells #[.int .i64 0, .int .i64 0, .int .i64 0] 29 (0, 0)) ∧ Below hs w w14 ∧ RdAt w14 (hs + 1) a n cap 707 := by
          rw [← hw14, ← hgq]
          exact ⟨heap_alloc_new w13 _, (heap_alloc_old w13 _ (Array.getElem?_eq_some_iff.1 rp).1).trans rp, (heap_alloc_old w13 _ (Array.getElem?_eq_some_iff.1 rr).1).trans rr, hB13.alloc (by have := hB13.size; omega) _, RdAt.kept hr13 (fun k hk => heap_alloc_old w13 _ (by omega))⟩
        rw [hw14, hgq]
        clear rp rr hw14 hgq hr13 hB13
        obtain ⟨rq, rp, rr, hB14, hr14⟩ := hx
        refine (pick_pos _ _ a n cap 707 3 (by omega) hr14 (by omega) (by omega)).mono ?_
        rintro e w15 ⟨l2, hl2, rfl, hr15, hg⟩
        have hB15 : Below hs w w15 := below_rd7 hB14 (by have := hB14.size; omega) hg (Nat.le_succ _)
        have rr := grown_row rr hg (by omega)
        have rp := grown_row rp hg (by omega)
        have rq := grown_row rq hg (by omega)
        clear hg hr14 hB14
        have hl3 : l2 = 0 ∨ l2 = 1 ∨ l2 = 2 := by omega
        have p1 := cell_of_row w15 gp 0 _ _ _ rp
        have p2 := cell_of_row w15 gp 1 _ _ _ rp
        have p3 := cell_of_row w15 gp 2 _ _ _ rp
        have o1 := frozen_of_row w15 gp 0 _ _ rp
        have o2 := frozen_of_row w15 gp 1 _ _ rp
        have o3 := frozen_of_row w15 gp 2 _ _ rp
        clear hl2
        rcases hl3 with rfl | rfl | rfl
        · have q1 := cell_of_row w15 gq 0 _ _ _ rq
          have q2 := cell_of_row w15 gq 1 _ _ _ rq
          have q3 := cell_of_row w15 gq 2 _ _ _ rq
          have WX := Lib.hid (wf7 (n := 4611686018427387904) (by omega) (by omega))
          have WY := Lib.hid (wf7 (n := 0) (by omega) (by omega))
          have WZ := Lib.hid (wf7 (n := 4611686018427387904) (by omega) (by omega))
          go_wp2
          clear q1 q2 q3 p1 p2 p3 o1 o2 o3 rq
          obtain ⟨w16, hw16⟩ : ∃ w9, (((w15.setCell ⟨gp, 0, none⟩ (.int .i64 4611686018427387904)).setCell ⟨gp, 1, none⟩ (.int .i64 0)).setCell ⟨gp, 2, none⟩ (.int .i64 4611686018427387904)) = w9 := ⟨_, rfl⟩
          rw [hw16]
          have hx : w16.heap[gp]? = some (.cells #[.int .i64 4611686018427387904, .int .i64 0, .int .i64 4611686018427387904] 29 (0, 0)) ∧ w16.heap[hs]? = some (.cells #[.int .i64 0, .int .i64 0, .int .i64 0] 29 (0, 0)) ∧ Below hs w w16 ∧ RdAt w16 (hs + 1) a n cap 708 := by
            rw [← hw16]
            exact ⟨piece_set7 w15 gp _ _ _ rp, row_set7 (g := gp) (row_set7 (g := gp) (row_set7 (g := gp) rr (by omega) _ _) (by omega) _ _) (by omega) _ _, ((hB15.setCell (p := ⟨gp, 0, none⟩) (by show hs ≤ gp; omega) _).setCell (p := ⟨gp, 1, none⟩) (by show hs ≤ gp; omega) _).setCell (p := ⟨gp, 2, none⟩) (by show hs ≤ gp; omega) _, rd_set7 (rd_set7 (rd_set7 hr15 hgp9 0 _) hgp9 1 _) hgp9 2 _⟩
          clear hw16 rp rr hB15 hr15
          obtain ⟨rp, rr, hB16, hr16⟩ := hx
          have j1 := cell_of_row w16 gp 0 _ _ _ rp
          have j2 := cell_of_row w16 gp 1 _ _ _ rp
          have j3 := cell_of_row w16 gp 2 _ _ _ rp
          have f1 := frozen_of_row w16 hs 0 _ _ rr
          have f2 := frozen_of_row w16 hs 1 _ _ rr
          have f3 := frozen_of_row w16 hs 2 _ _ rr
          have g1 := cell_of_row w16 hs 0 _ _ _ rr
          have g2 := cell_of_row w16 hs 1 _ _ _ rr
          have g3 := cell_of_row w16 hs 2 _ _ _ rr
          have HRR := Lib.hid rr
          have rz := row_set7 (g := hs) (row_set7 (g := hs) (row_set7 (g := hs) rp (by omega) 0 (.int .i64 4611686018427387904)) (by omega) 1 (.int .i64 0)) (by omega) 2 (.int .i64 4611686018427387904)
          have kz := And.intro (cell_of_row _ gp 0 _ _ _ rz) (And.intro (cell_of_row _ gp 1 _ _ _ rz) (cell_of_row _ gp 2 _ _ _ rz))
          clear hr16 rp rr rz
          go_wp2
          go_region_held3 (fun w' => w'.cell? ⟨gp, 0, none⟩ = some (.int .i64 4611686018427387904) ∧ w'.cell? ⟨gp, 1, none⟩ = some (.int .i64 0) ∧ w'.cell? ⟨gp, 2, none⟩ = some (.int .i64 4611686018427387904)) (first | go_keep | exact kz) ((fail))
          have r1 := cell_of_row7 w16 hs 4611686018427387904 0 4611686018427387904 HRR.out
          obtain ⟨r1, r2, r3⟩ := r1
          go_wp2
          refine bodyPost_ret (v := .tuple #[.string t, .string u, .agg #[.int .i64 4611686018427387904, .int .i64 0, .int .i64 4611686018427387904]]) (by simp [results, Try.results17, go_sem, r1, r2, r3]) rfl ⟨t, u, 4611686018427387904, 0, 4611686018427387904, ht, hu, WX.out, WY.out, WZ.out, rfl, ?_⟩
          rw [HHS.out]
          exact Below.drew (((hB16.setCell (p := ⟨hs, 0, none⟩) (Nat.le_refl _) _).setCell (p := ⟨hs, 1, none⟩) (Nat.le_refl _) _).setCell (p := ⟨hs, 2, none⟩) (Nat.le_refl _) _)
        · have q1 := cell_of_row w15 gq 3 _ _ _ rq
          have q2 := cell_of_row w15 gq 4 _ _ _ rq
          have q3 := cell_of_row w15 gq 5 _ _ _ rq
          have WX := Lib.hid (wf7 (n := 0) (by omega) (by omega))
          have WY := Lib.hid (wf7 (n := 9223372036854775807) (by omega) (by omega))
          have WZ := Lib.hid (wf7 (n := 1) (by omega) (by omega))
          go_wp2
          clear q1 q2 q3 p1 p2 p3 o1 o2 o3 rq
          obtain ⟨w16, hw16⟩ : ∃ w9, (((w15.setCell ⟨gp, 0, none⟩ (.int .i64 0)).setCell ⟨gp, 1, none⟩ (.int .i64 9223372036854775807)).setCell ⟨gp, 2, none⟩ (.int .i64 1)) = w9 := ⟨_, rfl⟩
          rw [hw16]
          have hx : w16.heap[gp]? = some (.cells #[.int .i64 0, .int .i64 9223372036854775807, .int .i64 1] 29 (0, 0)) ∧ w16.heap[hs]? = some (.cells #[.int .i64 0, .int .i64 0, .int .i64 0] 29 (0, 0)) ∧ Below hs w w16 ∧ RdAt w16 (hs + 1) a n cap 708 := by
            rw [← hw16]
            exact ⟨piece_set7 w15 gp _ _ _ rp, row_set7 (g := gp) (row_set7 (g := gp) (row_set7 (g := gp) rr (by omega) _ _) (by omega) _ _) (by omega) _ _, ((hB15.setCell (p := ⟨gp, 0, none⟩) (by show hs ≤ gp; omega) _).setCell (p := ⟨gp, 1, none⟩) (by show hs ≤ gp; omega) _).setCell (p := ⟨gp, 2, none⟩) (by show hs ≤ gp; omega) _, rd_set7 (rd_set7 (rd_set7 hr15 hgp9 0 _) hgp9 1 _) hgp9 2 _⟩
          clear hw16 rp rr hB15 hr15
          obtain ⟨rp, rr, hB16, hr16⟩ := hx
          have j1 := cell_of_row w16 gp 0 _ _ _ rp
          have j2 := cell_of_row w16 gp 1 _ _ _ rp
          have j3 := cell_of_row w16 gp 2 _ _ _ rp
          have f1 := frozen_of_row w16 hs 0 _ _ rr
          have f2 := frozen_of_row w16 hs 1 _ _ rr
          have f3 := frozen_of_row w16 hs 2 _ _ rr
          have g1 := cell_of_row w16 hs 0 _ _ _ rr
          have g2 := cell_of_row w16 hs 1 _ _ _ rr
          have g3 := cell_of_row w16 hs 2 _ _ _ rr
          have HRR := Lib.hid rr
          have rz := row_set7 (g := hs) (row_set7 (g := hs) (row_set7 (g := hs) rp (by omega) 0 (.int .i64 0)) (by omega) 1 (.int .i64 9223372036854775807)) (by omega) 2 (.int .i64 1)
          have kz := And.intro (cell_of_row _ gp 0 _ _ _ rz) (And.intro (cell_of_row _ gp 1 _ _ _ rz) (cell_of_row _ gp 2 _ _ _ rz))
          clear hr16 rp rr rz
          go_wp2
          go_region_held3 (fun w' => w'.cell? ⟨gp, 0, none⟩ = some (.int .i64 0) ∧ w'.cell? ⟨gp, 1, none⟩ = some (.int .i64 9223372036854775807) ∧ w'.cell? ⟨gp, 2, none⟩ = some (.int .i64 1)) (first | go_keep | exact kz) ((fail))
          have r1 := cell_of_row7 w16 hs 0 9223372036854775807 1 HRR.out
          obtain ⟨r1, r2, r3⟩ := r1
          go_wp2
          refine bodyPost_ret (v := .tuple #[.string t, .string u, .agg #[.int .i64 0, .int .i64 9223372036854775807, .int .i64 1]]) (by simp [results, Try.results17, go_sem, r1, r2, r3]) rfl ⟨t, u, 0, 9223372036854775807, 1, ht, hu, WX.out, WY.out, WZ.out, rfl, ?_⟩
          rw [HHS.out]
          exact Below.drew (((hB16.setCell (p := ⟨hs, 0, none⟩) (Nat.le_refl _) _).setCell (p := ⟨hs, 1, none⟩) (Nat.le_refl _) _).setCell (p := ⟨hs, 2, none⟩) (Nat.le_refl _) _)
        · have q1 := cell_of_row w15 gq 6 _ _ _ rq
          have q2 := cell_of_row w15 gq 7 _ _ _ rq
          have q3 := cell_of_row w15 gq 8 _ _ _ rq
          have WX := Lib.hid (wf7 (n := 0) (by omega) (by omega))
          have WY := Lib.hid (wf7 (n := 0) (by omega) (by omega))
          have WZ := Lib.hid (wf7 (n := 9223372036854775807) (by omega) (by omega))
          go_wp2
          clear q1 q2 q3 p1 p2 p3 o1 o2 o3 rq
          obtain ⟨w16, hw16⟩ : ∃ w9, (((w15.setCell ⟨gp, 0, none⟩ (.int .i64 0)).setCell ⟨gp, 1, none⟩ (.int .i64 0)).setCell ⟨gp, 2, none⟩ (.int .i64 9223372036854775807)) = w9 := ⟨_, rfl⟩
          rw [hw16]
          have hx : w16.heap[gp]? = some (.cells #[.int .i64 0, .int .i64 0, .int .i64 9223372036854775807] 29 (0, 0)) ∧ w16.heap[hs]? = some (.cells #[.int .i64 0, .int .i64 0, .int .i64 0] 29 (0, 0)) ∧ Below hs w w16 ∧ RdAt w16 (hs + 1) a n cap 708 := by
            rw [← hw16]
            exact ⟨piece_set7 w15 gp _ _ _ rp, row_set7 (g := gp) (row_set7 (g := gp) (row_set7 (g := gp) rr (by omega) _ _) (by omega) _ _) (by omega) _ _, ((hB15.setCell (p := ⟨gp, 0, none⟩) (by show hs ≤ gp; omega) _).setCell (p := ⟨gp, 1, none⟩) (by show hs ≤ gp; omega) _).setCell (p := ⟨gp, 2, none⟩) (by show hs ≤ gp; omega) _, rd_set7 (rd_set7 (rd_set7 hr15 hgp9 0 _) hgp9 1 _) hgp9 2 _⟩
          clear hw16 rp rr hB15 hr15
          obtain ⟨rp, rr, hB16, hr16⟩ := hx
          have j1 := cell_of_row w16 gp 0 _ _ _ rp
          have j2 := cell_of_row w16 gp 1 _ _ _ rp
          have j3 := cell_of_row w16 gp 2 _ _ _ rp
          have f1 := frozen_of_row w16 hs 0 _ _ rr
          have f2 := frozen_of_row w16 hs 1 _ _ rr
          have f3 := frozen_of_row w16 hs 2 _ _ rr
          have g1 := cell_of_row w16 hs 0 _ _ _ rr
          have g2 := cell_of_row w16 hs 1 _ _ _ rr
          have g3 := cell_of_row w16 hs 2 _ _ _ rr
          have HRR := Lib.hid rr
          have rz := row_set7 (g := hs) (row_set7 (g := hs) (row_set7 (g := hs) rp (by omega) 0 (.int .i64 0)) (by omega) 1 (.int .i64 0)) (by omega) 2 (.int .i64 9223372036854775807)
          have kz := And.intro (cell_of_row _ gp 0 _ _ _ rz) (And.intro (cell_of_row _ gp 1 _ _ _ rz) (cell_of_row _ gp 2 _ _ _ rz))
          clear hr16 rp rr rz
          go_wp2
          go_region_held3 (fun w' => w'.cell? ⟨gp, 0, none⟩ = some (.int .i64 0) ∧ w'.cell? ⟨gp, 1, none⟩ = some (.int .i64 0) ∧ w'.cell? ⟨gp, 2, none⟩ = some (.int .i64 9223372036854775807)) (first | go_keep | exact kz) ((fail))
          have r1 := cell_of_row7 w16 hs 0 0 9223372036854775807 HRR.out
          obtain ⟨r1, r2, r3⟩ := r1
          go_wp2
          refine bodyPost_ret (v := .tuple #[.string t, .string u, .agg #[.int .i64 0, .int .i64 0, .int .i64 9223372036854775807]]) (by simp [results, Try.results17, go_sem, r1, r2, r3]) rfl ⟨t, u, 0, 0, 9223372036854775807, ht, hu, WX.out, WY.out, WZ.out, rfl, ?_⟩
          rw [HHS.out]
          exact Below.drew (((hB16.setCell (p := ⟨hs, 0, none⟩) (Nat.le_refl _) _).setCell (p := ⟨hs, 1, none⟩) (Nat.le_refl _) _).setCell (p := ⟨hs, 2, none⟩) (Nat.le_refl _) _)
      · have hb : ((l1 : Int) == 0) = false := beq_eq_false_iff_ne.2 (by omega)
        have j1 := cell_of_row w13 gp 0 _ _ _ rp
        have j2 := cell_of_row w13 gp 1 _ _ _ rp
        have j3 := cell_of_row w13 gp 2 _ _ _ rp
        have f1 := frozen_of_row w13 hs 0 _ _ rr
        have f2 := frozen_of_row w13 hs 1 _ _ rr
        have f3 := frozen_of_row w13 hs 2 _ _ rr
        have g1 := cell_of_row w13 hs 0 _ _ _ rr
        have g2 := cell_of_row w13 hs 1 _ _ _ rr
        have g3 := cell_of_row w13 hs 2 _ _ _ rr
        have HRR := Lib.hid rr
        have rz := row_set7 (g := hs) (row_set7 (g := hs) (row_set7 (g := hs) rp (by omega) 0 (.int .i64 px)) (by omega) 1 (.int .i64 py)) (by omega) 2 (.int .i64 pz)
        have kz := And.intro (cell_of_row _ gp 0 _ _ _ rz) (And.intro (cell_of_row _ gp 1 _ _ _ rz) (cell_of_row _ gp 2 _ _ _ rz))
        clear hr13 rp rr rz
        go_wp2
        go_region_held3 (fun w' => w'.cell? ⟨gp, 0, none⟩ = some (.int .i64 px) ∧ w'.cell? ⟨gp, 1, none⟩ = some (.int .i64 py) ∧ w'.cell? ⟨gp, 2, none⟩ = some (.int .i64 pz)) (first | go_keep | exact kz) ((fail))
        have r1 := cell_of_row7 w13 hs px py pz HRR.out
        obtain ⟨r1, r2, r3⟩ := r1
        go_wp2
        refine bodyPost_ret (v := .tuple #[.string t, .string u, .agg #[.int .i64 px, .int .i64 py, .int .i64 pz]]) (by simp [results, Try.results17, go_sem, r1, r2, r3]) rfl ⟨t, u, px, py, pz, ht, hu, WX.out, WY.out, WZ.out, rfl, ?_⟩
        rw [HHS.out]
        exact Below.drew (((hB13.setCell (p := ⟨hs, 0, none⟩) (Nat.le_refl _) _).setCell (p := ⟨hs, 1, none⟩) (Nat.le_refl _) _).setCell (p := ⟨hs, 2, none⟩) (Nat.le_refl _) _)
  · have hm0i : ¬ (0 : Int) < (m : Int) := by omega
    go_wp2_with fail
    obtain ⟨w11, hw11⟩ : ∃ w9, w10.alloc (.cells #[.int .i64 px, .int .i64 py, .int .i64 pz] 29) = w9 := ⟨_, rfl⟩
    obtain ⟨rp, rr, hB11, hr11, EL⟩ := HX.out w11 hw11.symm
    rw [hw11, HGP.out]
    clear hw11 HX HGP hpx hpy hpz vx vy
    clear EL HL
    refine (pick_pos _ _ a n cap 705 15 (by omega) hr11 (by omega) (by omega)).mono ?_
    rintro e w12 ⟨l1, hl1, rfl, hr12, hg⟩
    have hB12 : Below hs w w12 := below_rd7 hB11 (by have := hB11.size; omega) hg (Nat.le_succ _)
    have rr := grown_row rr hg (by omega)
    have rp := grown_row rp hg (by omega)
    clear hg hr11 hB11
    by_cases hl0 : l1 = 0
    · subst hl0
      clear WX WY WZ hl1
      go_wp2_with fail
      obtain ⟨gq, hgq⟩ : ∃ gq, w12.heap.size = gq := ⟨_, rfl⟩
      have hgq9 : gp < gq := by rw [← hgq]; exact (Array.getElem?_eq_some_iff.1 rp).1
      obtain ⟨w13, hw13⟩ : ∃ w9, w12.alloc (.cells #[.int .i64 4611686018427387904, .int .i64 0, .int .i64 4611686018427387904, .int .i64 0, .int .i64 9223372036854775807, .int .i64 1, .int .i64 0, .int .i64 0, .int .i64 9223372036854775807] 29) = w9 := ⟨_, rfl⟩
      have hx : w13.heap[gq]? = some (.cells #[.int .i64 4611686018427387904, .int .i64 0, .int .i64 4611686018427387904, .int .i64 0, .int .i64 9223372036854775807, .int .i64 1, .int .i64 0, .int .i64 0, .int .i64 9223372036854775807] 29 (0, 0)) ∧ w13.heap[gp]? = some (.cells #[.int .i64 px, .int .i64 py, .int .i64 pz] 29 (0, 0)) ∧ w13.heap[hs]? = some (.cells #[.int .i64 0, .int .i64 0, .int .i64 0] 29 (0, 0)) ∧ Below hs w w13 ∧ RdAt w13 (hs + 1) a n cap 706 := by
        rw [← hw13, ← hgq]
        exact ⟨heap_alloc_new w12 _, (heap_alloc_old w12 _ (Array.getElem?_eq_some_iff.1 rp).1).trans rp, (heap_alloc_old w12 _ (Array.getElem?_eq_some_iff.1 rr).1).trans rr, hB12.alloc (by have := hB12.size; omega) _, RdAt.kept hr12 (fun k hk => heap_alloc_old w12 _ (by omega))⟩
      rw [hw13, hgq]
      clear rp rr hw13 hgq hr12 hB12
      obtain ⟨rq, rp, rr, hB13, hr13⟩ := hx
      refine (pick_pos _ _ a n cap 706 3 (by omega) hr13 (by omega) (by omega)).mono ?_
      rintro e w14 ⟨l2, hl2, rfl, hr14, hg⟩
      have hB14 : Below hs w w14 := below_rd7 hB13 (by have := hB13.size; omega) hg (Nat.le_succ _)
      have rr := grown_row rr hg (by omega)
      have rp := grown_row rp hg (by omega)
      have rq := grown_row rq hg (by omega)
      clear hg hr13 hB13
      have hl3 : l2 = 0 ∨ l2 = 1 ∨ l2 = 2 := by omega
      have p1 := cell_of_row w14 gp 0 _ _ _ rp
      have p2 := cell_of_row w14 gp 1 _ _ _ rp
      have p3 := cell_of_row w14 gp 2 _ _ _ rp
      have o1 := frozen_of_row w14 gp 0 _ _ rp
      have o2 := frozen_of_row w14 gp 1 _ _ rp
      have o3 := frozen_of_row w14 gp 2 _ _ rp
      clear hl2
      rcases hl3 with rfl | rfl | rfl
      · have q1 := cell_of_row w14 gq 0 _ _ _ rq
        have q2 := cell_of_row w14 gq 1 _ _ _ rq
        have q3 := cell_of_row w14 gq 2 _ _ _ rq
        have WX := Lib.hid (wf7 (n := 4611686018427387904) (by omega) (by omega))
        have WY := Lib.hid (wf7 (n := 0) (by omega) (by omega))
        have WZ := Lib.hid (wf7 (n := 4611686018427387904) (by omega) (by omega))
        go_wp2
        clear q1 q2 q3 p1 p2 p3 o1 o2 o3 rq
        obtain ⟨w15, hw15⟩ : ∃ w9, (((w14.setCell ⟨gp, 0, none⟩ (.int .i64 4611686018427387904)).setCell ⟨gp, 1, none⟩ (.int .i64 0)).setCell ⟨gp, 2, none⟩ (.int .i64 4611686018427387904)) = w9 := ⟨_, rfl⟩
        rw [hw15]
        have hx : w15.heap[gp]? = some (.cells #[.int .i64 4611686018427387904, .int .i64 0, .int .i64 4611686018427387904] 29 (0, 0)) ∧ w15.heap[hs]? = some (.cells #[.int .i64 0, .int .i64 0, .int .i64 0] 29 (0, 0)) ∧ Below hs w w15 ∧ RdAt w15 (hs + 1) a n cap 707 := by
          rw [← hw15]
          exact ⟨piece_set7 w14 gp _ _ _ rp, row_set7 (g := gp) (row_set7 (g := gp) (row_set7 (g := gp) rr (by omega) _ _) (by omega) _ _) (by omega) _ _, ((hB14.setCell (p := ⟨gp, 0, none⟩) (by show hs ≤ gp; omega) _).setCell (p := ⟨gp, 1, none⟩) (by show hs ≤ gp; omega) _).setCell (p := ⟨gp, 2, none⟩) (by show hs ≤ gp; omega) _, rd_set7 (rd_set7 (rd_set7 hr14 hgp9 0 _) hgp9 1 _) hgp9 2 _⟩
        clear hw15 rp rr hB14 hr14
        obtain ⟨rp, rr, hB15, hr15⟩ := hx
        have j1 := cell_of_row w15 gp 0 _ _ _ rp
        have j2 := cell_of_row w15 gp 1 _ _ _ rp
        have j3 := cell_of_row w15 gp 2 _ _ _ rp
        have f1 := frozen_of_row w15 hs 0 _ _ rr
        have f2 := frozen_of_row w15 hs 1 _ _ rr
        have f3 := frozen_of_row w15 hs 2 _ _ rr
        have g1 := cell_of_row w15 hs 0 _ _ _ rr
        have g2 := cell_of_row w15 hs 1 _ _ _ rr
        have g3 := cell_of_row w15 hs 2 _ _ _ rr
        have HRR := Lib.hid rr
        have rz := row_set7 (g := hs) (row_set7 (g := hs) (row_set7 (g := hs) rp (by omega) 0 (.int .i64 4611686018427387904)) (by omega) 1 (.int .i64 0)) (by omega) 2 (.int .i64 4611686018427387904)
        have kz := And.intro (cell_of_row _ gp 0 _ _ _ rz) (And.intro (cell_of_row _ gp 1 _ _ _ rz) (cell_of_row _ gp 2 _ _ _ rz))
        clear hr15 rp rr rz
        go_wp2
        go_region_held3 (fun w' => w'.cell? ⟨gp, 0, none⟩ = some (.int .i64 4611686018427387904) ∧ w'.cell? ⟨gp, 1, none⟩ = some (.int .i64 0) ∧ w'.cell? ⟨gp, 2, none⟩ = some (.int .i64 4611686018427387904)) (first | go_keep | exact kz) ((fail))
        have r1 := cell_of_row7 w15 hs 4611686018427387904 0 4611686018427387904 HRR.out
        obtain ⟨r1, r2, r3⟩ := r1
        go_wp2
        refine bodyPost_ret (v := .tuple #[.string t, .string u, .agg #[.int .i64 4611686018427387904, .int .i64 0, .int .i64 4611686018427387904]]) (by simp [results, Try.results17, go_sem, r1, r2, r3]) rfl ⟨t, u, 4611686018427387904, 0, 4611686018427387904, ht, hu, WX.out, WY.out, WZ.out, rfl, ?_⟩
        rw [HHS.out]
        exact Below.drew (((hB15.setCell (p := ⟨hs, 0, none⟩) (Nat.le_refl _) _).setCell (p := ⟨hs, 1, none⟩) (Nat.le_refl _) _).setCell (p := ⟨hs, 2, none⟩) (Nat.le_refl _) _)
      · have q1 := cell_of_row w14 gq 3 _ _ _ rq
        have q2 := cell_of_row w14 gq 4 _ _ _ rq
        have q3 := cell_of_row w14 gq 5 _ _ _ rq
        have WX := Lib.hid (wf7 (n := 0) (by omega) (by omega))
        have WY := Lib.hid (wf7 (n := 9223372036854775807) (by omega) (by omega))
        have WZ := Lib.hid (wf7 (n := 1) (by omega) (by omega))
        go_wp2
        clear q1 q2 q3 p1 p2 p3 o1 o2 o3 rq
        obtain ⟨w15, hw15⟩ : ∃ w9, (((w14.setCell ⟨gp, 0, none⟩ (.int .i64 0)).setCell ⟨gp, 1, none⟩ (.int .i64 9223372036854775807)).setCell ⟨gp, 2, none⟩ (.int .i64 1)) = w9 := ⟨_, rfl⟩
        rw [hw15]
        have hx : w15.heap[gp]? = some (.cells #[.int .i64 0, .int .i64 9223372036854775807, .int .i64 1] 29 (0, 0)) ∧ w15.heap[hs]? = some (.cells #[.int .i64 0, .int .i64 0, .int .i64 0] 29 (0, 0)) ∧ Below hs w w15 ∧ RdAt w15 (hs + 1) a n cap 707 := by
          rw [← hw15]
          exact ⟨piece_set7 w14 gp _ _ _ rp, row_set7 (g := gp) (row_set7 (g := gp) (row_set7 (g := gp) rr (by omega) _ _) (by omega) _ _) (by omega) _ _, ((hB14.setCell (p := ⟨gp, 0, none⟩) (by show hs ≤ gp; omega) _).setCell (p := ⟨gp, 1, none⟩) (by show hs ≤ gp; omega) _).setCell (p := ⟨gp, 2, none⟩) (by show hs ≤ gp; omega) _, rd_set7 (rd_set7 (rd_set7 hr14 hgp9 0 _) hgp9 1 _) hgp9 2 _⟩
        clear hw15 rp rr hB14 hr14
        obtain ⟨rp, rr, hB15, hr15⟩ := hx
        have j1 := cell_of_row w15 gp 0 _ _ _ rp
        have j2 := cell_of_row w15 gp 1 _ _ _ rp
        have j3 := cell_of_row w15 gp 2 _ _ _ rp
        have f1 := frozen_of_row w15 hs 0 _ _ rr
        have f2 := frozen_of_row w15 hs 1 _ _ rr
        have f3 := frozen_of_row w15 hs 2 _ _ rr
        have g1 := cell_of_row w15 hs 0 _ _ _ rr
        have g2 := cell_of_row w15 hs 1 _ _ _ rr
        have g3 := cell_of_row w15 hs 2 _ _ _ rr
        have HRR := Lib.hid rr
        have rz := row_set7 (g := hs) (row_set7 (g := hs) (row_set7 (g := hs) rp (by omega) 0 (.int .i64 0)) (by omega) 1 (.int .i64 9223372036854775807)) (by omega) 2 (.int .i64 1)
        have kz := And.intro (cell_of_row _ gp 0 _ _ _ rz) (And.intro (cell_of_row _ gp 1 _ _ _ rz) (cell_of_row _ gp 2 _ _ _ rz))
        clear hr15 rp rr rz
        go_wp2
        go_region_held3 (fun w' => w'.cell? ⟨gp, 0, none⟩ = some (.int .i64 0) ∧ w'.cell? ⟨gp, 1, none⟩ = some (.int .i64 9223372036854775807) ∧ w'.cell? ⟨gp, 2, none⟩ = some (.int .i64 1)) (first | go_keep | exact kz) ((fail))
        have r1 := cell_of_row7 w15 hs 0 9223372036854775807 1 HRR.out
        obtain ⟨r1, r2, r3⟩ := r1
        go_wp2
        refine bodyPost_ret (v := .tuple #[.string t, .string u, .agg #[.int .i64 0, .int .i64 9223372036854775807, .int .i64 1]]) (by simp [results, Try.results17, go_sem, r1, r2, r3]) rfl ⟨t, u, 0, 9223372036854775807, 1, ht, hu, WX.out, WY.out, WZ.out, rfl, ?_⟩
        rw [HHS.out]
        exact Below.drew (((hB15.setCell (p := ⟨hs, 0, none⟩) (Nat.le_refl _) _).setCell (p := ⟨hs, 1, none⟩) (Nat.le_refl _) _).setCell (p := ⟨hs, 2, none⟩) (Nat.le_refl _) _)
      · have q1 := cell_of_row w14 gq 6 _ _ _ rq
        have q2 := cell_of_row w14 gq 7 _ _ _ rq
        have q3 := cell_of_row w14 gq 8 _ _ _ rq
        have WX := Lib.hid (wf7 (n := 0) (by omega) (by omega))
        have WY := Lib.hid (wf7 (n := 0) (by omega) (by omega))
        have WZ := Lib.hid (wf7 (n := 9223372036854775807) (by omega) (by omega))
        go_wp2
        clear q1 q2 q3 p1 p2 p3 o1 o2 o3 rq
        obtain ⟨w15, hw15⟩ : ∃ w9, (((w14.setCell ⟨gp, 0, none⟩ (.int .i64 0)).setCell ⟨gp, 1, none⟩ (.int .i64 0)).setCell ⟨gp, 2, none⟩ (.int .i64 9223372036854775807)) = w9 := ⟨_, rfl⟩
        rw [hw15]
        have hx : w15.heap[gp]? = some (.cells #[.int .i64 0, .int .i64 0, .int .i64 9223372036854775807] 29 (0, 0)) ∧ w15.heap[hs]? = some (.cells #[.int .i64 0, .int .i64 0, .int .i64 0] 29 (0, 0)) ∧ Below hs w w15 ∧ RdAt w15 (hs + 1) a n cap 707 := by
          rw [← hw15]
          exact ⟨piece_set7 w14 gp _ _ _ rp, row_set7 (g := gp) (row_set7 (g := gp) (row_set7 (g := gp) rr (by omega) _ _) (by omega) _ _) (by omega) _ _, ((hB14.setCell (p := ⟨gp, 0, none⟩) (by show hs ≤ gp; omega) _).setCell (p := ⟨gp, 1, none⟩) (by show hs ≤ gp; omega) _).setCell (p := ⟨gp, 2, none⟩) (by show hs ≤ gp; omega) _, rd_set7 (rd_set7 (rd_set7 hr14 hgp9 0 _) hgp9 1 _) hgp9 2 _⟩
        clear hw15 rp rr hB14 hr14
        obtain ⟨rp, rr, hB15, hr15⟩ := hx
        have j1 := cell_of_row w15 gp 0 _ _ _ rp
        have j2 := cell_of_row w15 gp 1 _ _ _ rp
        have j3 := cell_of_row w15 gp 2 _ _ _ rp
        have f1 := frozen_of_row w15 hs 0 _ _ rr
        have f2 := frozen_of_row w15 hs 1 _ _ rr
        have f3 := frozen_of_row w15 hs 2 _ _ rr
        have g1 := cell_of_row w15 hs 0 _ _ _ rr
        have g2 := cell_of_row w15 hs 1 _ _ _ rr
        have g3 := cell_of_row w15 hs 2 _ _ _ rr
        have HRR := Lib.hid rr
        have rz := row_set7 (g := hs) (row_set7 (g := hs) (row_set7 (g := hs) rp (by omega) 0 (.int .i64 0)) (by omega) 1 (.int .i64 0)) (by omega) 2 (.int .i64 9223372036854775807)
        have kz := And.intro (cell_of_row _ gp 0 _ _ _ rz) (And.intro (cell_of_row _ gp 1 _ _ _ rz) (cell_of_row _ gp 2 _ _ _ rz))
        clear hr15 rp rr rz
        go_wp2
        go_region_held3 (fun w' => w'.cell? ⟨gp, 0, none⟩ = some (.int .i64 0) ∧ w'.cell? ⟨gp, 1, none⟩ = some (.int .i64 0) ∧ w'.cell? ⟨gp, 2, none⟩ = some (.int .i64 9223372036854775807)) (first | go_keep | exact kz) ((fail))
        have r1 := cell_of_row7 w15 hs 0 0 9223372036854775807 HRR.out
        obtain ⟨r1, r2, r3⟩ := r1
        go_wp2
        refine bodyPost_ret (v := .tuple #[.string t, .string u, .agg #[.int .i64 0, .int .i64 0, .int .i64 9223372036854775807]]) (by simp [results, Try.results17, go_sem, r1, r2, r3]) rfl ⟨t, u, 0, 0, 9223372036854775807, ht, hu, WX.out, WY.out, WZ.out, rfl, ?_⟩
        rw [HHS.out]
        exact Below.drew (((hB15.setCell (p := ⟨hs, 0, none⟩) (Nat.le_refl _) _).setCell (p := ⟨hs, 1, none⟩) (Nat.le_refl _) _).setCell (p := ⟨hs, 2, none⟩) (Nat.le_refl _) _)
    · have hb : ((l1 : Int) == 0) = false := beq_eq_false_iff_ne.2 (by omega)
      have j1 := cell_of_row w12 gp 0 _ _ _ rp
      have j2 := cell_of_row w12 gp 1 _ _ _ rp
      have j3 := cell_of_row w12 gp 2 _ _ _ rp
      have f1 := frozen_of_row w12 hs 0 _ _ rr
      have f2 := frozen_of_row w12 hs 1 _ _ rr
      have f3 := frozen_of_row w12 hs 2 _ _ rr
      have g1 := cell_of_row w12 hs 0 _ _ _ rr
      have g2 := cell_of_row w12 hs 1 _ _ _ rr
      have g3 := cell_of_row w12 hs 2 _ _ _ rr
      have HRR := Lib.hid rr
      have rz := row_set7 (g := hs) (row_set7 (g := hs) (row_set7 (g := hs) rp (by omega) 0 (.int .i64 px)) (by omega) 1 (.int .i64 py)) (by omega) 2 (.int .i64 pz)
      have kz := And.intro (cell_of_row _ gp 0 _ _ _ rz) (And.intro (cell_of_row _ gp 1 _ _ _ rz) (cell_of_row _ gp 2 _ _ _ rz))
      clear hr12 rp rr rz
      go_wp2
      go_region_held3 (fun w' => w'.cell? ⟨gp, 0, none⟩ = some (.int .i64 px) ∧ w'.cell? ⟨gp, 1, none⟩ = some (.int .i64 py) ∧ w'.cell? ⟨gp, 2, none⟩ = some (.int .i64 pz)) (first | go_keep | exact kz) ((fail))
      have r1 := cell_of_row7 w12 hs px py pz HRR.out
      obtain ⟨r1, r2, r3⟩ := r1
      go_wp2
      refine bodyPost_ret (v := .tuple #[.string t, .string u, .agg #[.int .i64 px, .int .i64 py, .int .i64 pz]]) (by simp [results, Try.results17, go_sem, r1, r2, r3]) rfl ⟨t, u, px, py, pz, ht, hu, WX.out, WY.out, WZ.out, rfl, ?_⟩
      rw [HHS.out]
      exact Below.drew (((hB12.setCell (p := ⟨hs, 0, none⟩) (Nat.le_refl _) _).setCell (p := ⟨hs, 1, none⟩) (Nat.le_refl _) _).setCell (p := ⟨hs, 2, none⟩) (Nat.le_refl _) _)

end Go.Proofs.Ytgkdelpebfgfmaa
