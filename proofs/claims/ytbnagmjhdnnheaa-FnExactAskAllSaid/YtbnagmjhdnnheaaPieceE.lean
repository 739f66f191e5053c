/-
  The contracts of the program's functions PiecesOf and LongestPiece. Condition: texts have at most 2^20 bytes. (Written by wip/tools/ch7_pieces_impl.py.)
-/
import Derived.Test.YtbnagmjhdnnheaaPieceB
import Derived.Test.YtbnagmjhdnnheaaPieceP
namespace Go.Proofs.Ytbnagmjhdnnheaa
open Go.RowKit

set_option maxRecDepth 4000 in
set_option maxHeartbeats 8000000 in
theorem implPieces_any (s t : ByteArray) (n : Int) (R : List En) (w : World) (h : piecesT s t n = R) (hn9 : n ≤ 9223372036854775807) (hs : s.size ≤ 1048576) (ht : t.size ≤ 1048576) :
    Calls Try.prog 82 #[.string s, .string t, .int .i64 n] w fun e w' => ∃ a m c, e = .returned (.slice a m c) ∧ One w w.heap.size w' 88 3 a m c (entsC R) := by
  subst h
  by_cases hn : n < 1
  · have HE := Lib.hid (piecesT_bad (s := s) (t := t) hn)
    go_enter Try.func82, Try.ntmps82
    go_wp2
    go_ret
    exact ⟨_, _, _, rfl, by rw [HE.out]; exact One.nil w 88 3⟩
  · obtain ⟨N, rfl⟩ : ∃ N : Nat, n = N := ⟨n.toNat, by omega⟩
    have hN1 : 1 ≤ N := by omega
    have HR := Lib.hid (piecesT_nat (s := s) (t := t) (n := N) hN1)
    have e1 : IntKind.i64.wrap ((s.size : Int) - (N : Int)) = (s.size : Int) - (N : Int) := IntWalk.i64_in _ (by omega)
    have e2 : IntKind.i64.wrap ((t.size : Int) - (N : Int)) = (t.size : Int) - (N : Int) := IntWalk.i64_in _ (by omega)
    go_enter Try.func82, Try.ntmps82
    go_wp2
    go_loopw [7, 8] (fun v i_ wr => ∃ (i m c : Nat) (a : Option Addr), i ≤ s.size ∧ i_ = .int .i64 (i : Int) ∧ v = .slice a m c ∧ Hid (One w w.heap.size wr 88 3 a m c (entsC (piecesN s t N i)))) (fun _ i_ _ => s.size - (intOf i_).toNat)
    case atStart => exact ⟨0, _, _, _, Nat.zero_le _, rfl, rfl, Lib.hid (One.nil w 88 3)⟩
    case round =>
      obtain ⟨i, m, c, a, hi, rfl, rfl, HO⟩ := hrel
      by_cases hlt : i + N ≤ s.size
      · have z1 : (i : Int) ≤ (s.size : Int) - (N : Int) := by omega
        have hi2 : i < s.size := by omega
        obtain ⟨wo, rfl⟩ : ∃ wo, wo = wr := ⟨_, rfl⟩
        go_wp2
        go_loopw [7, 9] (fun v j_ wr => ∃ (j m c : Nat) (a : Option Addr), j ≤ t.size ∧ j_ = .int .i64 (j : Int) ∧ v = .slice a m c ∧ Hid (One w w.heap.size wr 88 3 a m c (entsC (piecesN s t N i ++ rowP s t N i j)))) (fun _ j_ _ => t.size - (intOf j_).toNat)
        case atStart => exact ⟨0, m, c, a, Nat.zero_le _, rfl, rfl, Lib.hid (by rw [rowP_zero, List.append_nil]; exact HO.out)⟩
        case round =>
          obtain ⟨j, m, c, a, hj, rfl, rfl, HO⟩ := hrel
          by_cases hltj : j + N ≤ t.size
          · have z2 : (j : Int) ≤ (t.size : Int) - (N : Int) := by omega
            have hm9 : m ≤ 1099511627776 := by rw [ents_len7 HO.out.own]; exact pieces_room N i j hs ht hi2 hj
            have hN2 : (0 : Int) < (N : Int) := by omega
            rcases from_ways s t N i j hN1 with ⟨hgr, hst⟩ | ⟨r, hgr, hst, hNr, hpc⟩ | ⟨r, hgr, hst, hNr⟩
            · have cg := fun w => implFrom_any s t i j 0 0 0 w hgr hi hj (by omega) (by omega)
              have HRW := Lib.hid (rowP_no (n := N) hst)
              have hNr2 : (0 : Int) < (N : Int) := by omega
              clear hgr hst
              go_wp2_with fail
              refine (cg _).mono ?_
              rintro e w5 ⟨rfl, b5⟩
              have HO := Lib.hid ((HO.out.later b5).later ((Below.refl _ _).alloc (Nat.le_refl _) (.cells #[.int .i64 0, .int .i64 0, .int .i64 0] 88)))
              clear b5 cg
              go_wp2
              go_roundw
              case rel => exact ⟨j + 1, m, c, a, by omega, by go_num, rfl, Lib.hid (by rw [HRW.out]; exact HO.out)⟩
              case measure => simp [intOf]; omega
            · have cg := fun w => implFrom_any s t i j i j r w hgr hi hj (by omega) (by omega)
              have HRW := Lib.hid (rowP_yes hst)
              have HPC := Lib.hid hpc
              have hNr2 : (N : Int) ≤ (r : Int) := by omega
              clear hgr hst hpc
              go_wp2_with fail
              refine (cg _).mono ?_
              rintro e w5 ⟨rfl, b5⟩
              have HO := Lib.hid ((HO.out.later b5).later ((Below.refl _ _).alloc (Nat.le_refl _) (.cells #[.int .i64 (i : Int), .int .i64 (j : Int), .int .i64 (r : Int)] 88)))
              clear b5 cg
              go_wp2_with (at_builtin; refine wpList_append_row rfl (.tmp 38) (.tmp 40) 46 rfl Try.ulP7 Try.infoP7 rfl (by decide) HO.out rfl #[.int .i64 (i : Int), .int .i64 (j : Int), .int .i64 (r : Int)] (by rw [alloc_size7]; rfl) rfl (by simp [Value.oneCell']) (by unfold maxLen; omega) (by omega) ?_; intro a6 c6 w6 o6)
              go_roundw
              case rel => exact ⟨j + 1, m + 1, c6, a6, by omega, by go_num, rfl, Lib.hid (by rw [HRW.out, HPC.out, ← List.append_assoc, entsC_snoc]; exact o6)⟩
              case measure => simp [intOf]; omega
            · have cg := fun w => implFrom_any s t i j i j r w hgr hi hj (by omega) (by omega)
              have HRW := Lib.hid (rowP_no (n := N) hst)
              have hNr2 : (r : Int) < (N : Int) := by omega
              clear hgr hst
              go_wp2_with fail
              refine (cg _).mono ?_
              rintro e w5 ⟨rfl, b5⟩
              have HO := Lib.hid ((HO.out.later b5).later ((Below.refl _ _).alloc (Nat.le_refl _) (.cells #[.int .i64 (i : Int), .int .i64 (j : Int), .int .i64 (r : Int)] 88)))
              clear b5 cg
              go_wp2
              go_roundw
              case rel => exact ⟨j + 1, m, c, a, by omega, by go_num, rfl, Lib.hid (by rw [HRW.out]; exact HO.out)⟩
              case measure => simp [intOf]; omega
          · have HO := Lib.hid (show One w w.heap.size wr 88 3 a m c (entsC (piecesN s t N (i + 1))) by rw [piecesN_next, rowP_rest hj (by omega)]; exact HO.out)
            have z2 : (t.size : Int) - (N : Int) < (j : Int) := by omega
            go_wp2
            go_roundw
            case rel => exact ⟨i + 1, m, c, a, by omega, by go_num, rfl, HO⟩
            case measure => simp [intOf]; omega
      · have HE := Lib.hid (piecesN_rest (s := s) (t := t) (n := N) hi (by omega))
        have z1 : (s.size : Int) - (N : Int) < (i : Int) := by omega
        go_wp2
        go_ret
        exact ⟨_, _, _, rfl, by rw [HR.out, HE.out]; exact HO.out⟩

theorem longL_nonneg7 {l : List En} {x y z : Int} (h : longL (0, 0, 0) l = (x, y, z)) : 0 ≤ z := by
  have h1 := (longL_ge (0, 0, 0) l).1
  rw [h] at h1
  exact h1
/-- What the longest one becomes by one more. -/
theorem longL_more {l : List En} {x y z : Int} {p : En} (h : longL (0, 0, 0) l = (x, y, z)) : longL (0, 0, 0) (l ++ [p]) = if z < p.2.2 then p else (x, y, z) := by
  rw [longL_snoc, h]


end Go.Proofs.Ytbnagmjhdnnheaa
