/-
  The contracts of the program's functions PiecesOf and LongestPiece. Condition: texts have at most 2^20 bytes. (Written by wip/tools/ch7_pieces_impl.py.)
-/
import Derived.Test.YtehppjilnacjlaaPieceB
import Derived.Test.YtehppjilnacjlaaPieceP
namespace Go.Proofs.Ytehppjilnacjlaa
open Go.RowKit


theorem longL_nonneg7 {l : List En} {x y z : Int} (h : longL (0, 0, 0) l = (x, y, z)) : 0 ≤ z := by
  have h1 := (longL_ge (0, 0, 0) l).1
  rw [h] at h1
  exact h1
/-- What the longest one becomes by one more. -/
theorem longL_more {l : List En} {x y z : Int} {p : En} (h : longL (0, 0, 0) l = (x, y, z)) : longL (0, 0, 0) (l ++ [p]) = if z < p.2.2 then p else (x, y, z) := by
  rw [longL_snoc, h]

set_option maxRecDepth 4000 in
set_option maxHeartbeats 8000000 in
theorem implLongest_any (s t : ByteArray) (x y z : Int) (w : World) (h : longT s t = (x, y, z)) (hs : s.size ≤ 1048576) (ht : t.size ≤ 1048576) :
    Calls Try.prog 33 #[.string s, .string t] w fun e w' => e = .returned (.agg #[.int .i64 x, .int .i64 y, .int .i64 z]) ∧ Below w.heap.size w w' := by
  have HLONG := Lib.hid (show longL (0, 0, 0) (piecesN s t 1 s.size) = (x, y, z) by rw [← piecesT_nat (by decide)]; exact h)
  clear h
  go_enter Try.func33, Try.ntmps33
  go_wp2
  have hs4 : Side ((w.alloc (.cells #[.int .i64 0, .int .i64 0, .int .i64 0] 45)).alloc (.cells #[.int .i64 0, .int .i64 0, .int .i64 0] 45)) w.heap.size (.slice none 0 0) 45 w.heap.size [.int .i64 0, .int .i64 0, .int .i64 0] :=
    (Side.fresh (w := w) (B := w.heap.size) (v := .slice none 0 0) 45 [.int .i64 0, .int .i64 0, .int .i64 0] (Nat.le_refl _) (by intro k hk; simp [Value.ownBlock] at hk)).later ((Below.refl _ _).alloc (Nat.le_refl _) _)
  have hs5 : Side ((w.alloc (.cells #[.int .i64 0, .int .i64 0, .int .i64 0] 45)).alloc (.cells #[.int .i64 0, .int .i64 0, .int .i64 0] 45)) w.heap.size (.slice none 0 0) 45 (w.heap.size + 1) [.int .i64 0, .int .i64 0, .int .i64 0] := by
    have h1 := Side.fresh (w := w.alloc (.cells #[.int .i64 0, .int .i64 0, .int .i64 0] 45)) (B := w.heap.size) (v := .slice none 0 0) 45 [.int .i64 0, .int .i64 0, .int .i64 0] (by simp) (by intro k hk; simp [Value.ownBlock] at hk)
    rw [alloc_size7] at h1
    exact h1
  have hb0 : Below w.heap.size w ((w.alloc (.cells #[.int .i64 0, .int .i64 0, .int .i64 0] 45)).alloc (.cells #[.int .i64 0, .int .i64 0, .int .i64 0] 45)) := below_alloc2 _ _ _
  obtain ⟨w1, hw1⟩ : ∃ w1, (w.alloc (.cells #[.int .i64 0, .int .i64 0, .int .i64 0] 45)).alloc (.cells #[.int .i64 0, .int .i64 0, .int .i64 0] 45) = w1 := ⟨_, rfl⟩
  obtain ⟨g5, hg5⟩ : ∃ g, w.heap.size + 1 = g := ⟨_, rfl⟩
  obtain ⟨g4, hg4⟩ : ∃ g, w.heap.size = g := ⟨_, rfl⟩
  have hne : g4 ≠ g5 := by omega
  rw [hw1] at hs4 hs5 hb0
  rw [hg5] at hs5
  have hs4 : Side w1 w.heap.size (.slice none 0 0) 45 g4 [.int .i64 0, .int .i64 0, .int .i64 0] := by rw [← hg4]; exact hs4
  have hb1 : Below w.heap.size w w1 := hb0
  clear hb0
  rw [hw1, hg5, hg4]
  clear hw1 hg5 hg4
  go_loopw [6] (fun i_ wr => ∃ (i : Nat) (x y z : Int), i ≤ s.size ∧ i_ = .int .i64 (i : Int) ∧ Hid (longL (0, 0, 0) (piecesN s t 1 i) = (x, y, z)) ∧ Hid (Side wr w.heap.size (.slice none 0 0) 45 g5 [.int .i64 x, .int .i64 y, .int .i64 z]) ∧ Hid (Side wr w.heap.size (.slice none 0 0) 45 g4 [.int .i64 0, .int .i64 0, .int .i64 0]) ∧ Hid (Below w.heap.size w wr)) (fun i_ _ => s.size - (intOf i_).toNat)
  case atStart => exact ⟨0, 0, 0, 0, Nat.zero_le _, rfl, Lib.hid rfl, Lib.hid hs5, Lib.hid hs4, Lib.hid hb1⟩
  case round =>
    clear hs5 hs4 hb1
    obtain ⟨i, bx, bY, bz, hi, rfl, HL, H5, H4, HB⟩ := hrel
    by_cases hlt : i < s.size
    · have z1 : (i : Int) < (s.size : Int) := by omega
      obtain ⟨wo, rfl⟩ : ∃ wo, wo = wr := ⟨_, rfl⟩
      go_wp2
      go_loopw [7] (fun j_ wr => ∃ (j : Nat) (x y z : Int), j ≤ t.size ∧ j_ = .int .i64 (j : Int) ∧ Hid (longL (0, 0, 0) (piecesN s t 1 i ++ rowP s t 1 i j) = (x, y, z)) ∧ Hid (Side wr w.heap.size (.slice none 0 0) 45 g5 [.int .i64 x, .int .i64 y, .int .i64 z]) ∧ Hid (Side wr w.heap.size (.slice none 0 0) 45 g4 [.int .i64 0, .int .i64 0, .int .i64 0]) ∧ Hid (Below w.heap.size w wr)) (fun j_ _ => t.size - (intOf j_).toNat)
      case atStart => exact ⟨0, bx, bY, bz, Nat.zero_le _, rfl, Lib.hid (by rw [rowP_zero, List.append_nil]; exact HL.out), H5, H4, HB⟩
      case round =>
        clear HL H5 H4 HB
        obtain ⟨j, bx, bY, bz, hj, rfl, HL, H5, H4, HB⟩ := hrel
        by_cases hltj : j < t.size
        · have z2 : (j : Int) < (t.size : Int) := by omega
          have hz0 := longL_nonneg7 HL.out
          have hways : (∃ X Y Z : Int, fromP s t i j = (X, Y, Z) ∧ bz < Z ∧ longL (0, 0, 0) (piecesN s t 1 i ++ rowP s t 1 i (j + 1)) = (X, Y, Z)) ∨ (∃ X Y Z : Int, fromP s t i j = (X, Y, Z) ∧ ¬ bz < Z ∧ longL (0, 0, 0) (piecesN s t 1 i ++ rowP s t 1 i (j + 1)) = (bx, bY, bz)) := by
            rcases from_ways s t 1 i j (by decide) with ⟨hgr, hst⟩ | ⟨r, hgr, hst, hNr, hpc⟩ | ⟨r, hgr, hst, hNr⟩
            · exact .inr ⟨_, _, _, hgr, by omega, by rw [rowP_no hst]; exact HL.out⟩
            · have h1 := longL_more (p := pieceN s t i j) HL.out
              rw [hpc] at h1
              rw [rowP_yes hst, ← List.append_assoc, hpc]
              by_cases hb : bz < (r : Int)
              · exact .inl ⟨_, _, _, hgr, hb, by rw [h1, if_pos hb]⟩
              · exact .inr ⟨_, _, _, hgr, hb, by rw [h1, if_neg hb]⟩
            · exact .inr ⟨_, _, _, hgr, by omega, by rw [rowP_no hst]; exact HL.out⟩
          clear HL
          rcases hways with ⟨X, Y, Z, hgr, hcmp, hnew⟩ | ⟨X, Y, Z, hgr, hcmp, hnew⟩
          · have cg := fun w => implFrom_any s t i j X Y Z w hgr hi hj (by omega) (by omega)
            have HNEW := Lib.hid hnew
            clear hgr hnew
            go_wp2_with fail
            refine (cg _).mono ?_
            rintro e w5 ⟨rfl, b5⟩
            have ha := (Below.refl w5.heap.size w5).alloc (Nat.le_refl _) (.cells #[.int .i64 X, .int .i64 Y, .int .i64 Z] 45)
            have h5 := (H5.out.later b5).later ha
            have HSX := Lib.hid (((h5.set_self 0 (.int .i64 X)).set_self 1 (.int .i64 Y)).set_self 2 (.int .i64 Z))
            have HSY := Lib.hid (((((H4.out.later b5).later ha).set_other hne 0 (.int .i64 X)).set_other hne 1 (.int .i64 Y)).set_other hne 2 (.int .i64 Z))
            have HB5 := Lib.hid ((HB.out.trans (b5.mono HB.out.size)).alloc (Nat.le_trans HB.out.size b5.size) (.cells #[.int .i64 X, .int .i64 Y, .int .i64 Z] 45))
            have HGB := Lib.hid H5.out.base
            have k1 := h5.cell 0 _ rfl
            have k2 := h5.cell 1 _ rfl
            have k3 := h5.cell 2 _ rfl
            have r1 := h5.frozen 0
            have r2 := h5.frozen 1
            have r3 := h5.frozen 2
            clear b5 cg ha h5 H5 H4 HB
            go_wp2
            go_roundw
            case rel => exact ⟨j + 1, X, Y, Z, by omega, by go_num, HNEW, HSX, HSY, Lib.hid (below_set7 (below_set7 (below_set7 HB5.out HGB.out _ _) HGB.out _ _) HGB.out _ _)⟩
            case measure => simp [intOf]; omega
          · have cg := fun w => implFrom_any s t i j X Y Z w hgr hi hj (by omega) (by omega)
            have HNEW := Lib.hid hnew
            clear hgr hnew
            go_wp2_with fail
            refine (cg _).mono ?_
            rintro e w5 ⟨rfl, b5⟩
            have ha := (Below.refl w5.heap.size w5).alloc (Nat.le_refl _) (.cells #[.int .i64 X, .int .i64 Y, .int .i64 Z] 45)
            have h5 := (H5.out.later b5).later ha
            have HSX := Lib.hid h5
            have HSY := Lib.hid ((H4.out.later b5).later ha)
            have HB5 := Lib.hid ((HB.out.trans (b5.mono HB.out.size)).alloc (Nat.le_trans HB.out.size b5.size) (.cells #[.int .i64 X, .int .i64 Y, .int .i64 Z] 45))
            have k3 := h5.cell 2 _ rfl
            clear b5 cg ha h5 H5 H4 HB
            go_wp2
            go_roundw
            case rel => exact ⟨j + 1, bx, bY, bz, by omega, by go_num, HNEW, HSX, HSY, HB5⟩
            case measure => simp [intOf]; omega
        · obtain rfl : j = t.size := by omega
          have HL := Lib.hid (show longL (0, 0, 0) (piecesN s t 1 (i + 1)) = (bx, bY, bz) by rw [piecesN_next]; exact HL.out)
          go_wp2
          go_roundw
          case rel => exact ⟨i + 1, bx, bY, bz, by omega, by go_num, HL, H5, H4, HB⟩
          case measure => simp [intOf]; omega
    · obtain rfl : i = s.size := by omega
      have hxyz := HLONG.out.symm.trans HL.out
      simp only [Prod.mk.injEq] at hxyz
      obtain ⟨rfl, rfl, rfl⟩ := hxyz
      have j1 := H5.out.cell 0 _ rfl
      have j2 := H5.out.cell 1 _ rfl
      have j3 := H5.out.cell 2 _ rfl
      have k1 := H4.out.cell 0 _ rfl
      have k2 := H4.out.cell 1 _ rfl
      have k3 := H4.out.cell 2 _ rfl
      have r1 := H4.out.frozen 0
      have r2 := H4.out.frozen 1
      have r3 := H4.out.frozen 2
      have HSX := Lib.hid (((H4.out.set_self 0 (.int .i64 x)).set_self 1 (.int .i64 y)).set_self 2 (.int .i64 z))
      have HGB := Lib.hid H4.out.base
      clear H5 H4
      go_wp2
      have q1 := HSX.out.cell 0 _ rfl
      have q2 := HSX.out.cell 1 _ rfl
      have q3 := HSX.out.cell 2 _ rfl
      refine bodyPost_ret (v := .agg #[.int .i64 x, .int .i64 y, .int .i64 z]) (by simp [results, Try.results33, go_sem, q1, q2, q3]) rfl ⟨rfl, ?_⟩
      exact below_set7 (below_set7 (below_set7 HB.out HGB.out _ _) HGB.out _ _) HGB.out _ _

end Go.Proofs.Ytehppjilnacjlaa
