/-
  The contracts of the model's functions PiecesOf, LongestPiece and TurnedPieces. Conditions: texts have at most 2^20 bytes; rows at most 2^20 pieces.
-/
import Derived.Test.YtbnagmjhdnnheaaPieceG
import Derived.Test.YtbnagmjhdnnheaaPieceP
import Derived.Test.YtbnagmjhdnnheaaPieceR
namespace Go.Proofs.Ytbnagmjhdnnheaa
open Go.RowKit

set_option maxRecDepth 4000 in
set_option maxHeartbeats 8000000 in
theorem specPieces_any (s t : ByteArray) (n : Int) (R : List En) (w : World) (h : piecesT s t n = R) (hs : s.size ≤ 1048576) (ht : t.size ≤ 1048576) :
    Calls Try.prog 81 #[.string s, .string t, .int .i64 n] w fun e w' => ∃ g m c, e = .returned (.slice (some ⟨g, 0, none⟩) m c) ∧ One w w.heap.size w' 88 3 (some ⟨g, 0, none⟩) m c (entsC R) := by
  subst h
  by_cases hn : n < 1
  · have HE := Lib.hid (piecesT_bad (s := s) (t := t) hn)
    go_enter Try.func81, Try.ntmps81
    go_wp2
    go_ret
    exact ⟨_, _, _, rfl, by rw [HE.out]; exact One.empty w 88 3⟩
  · obtain ⟨N, rfl⟩ : ∃ N : Nat, n = N := ⟨n.toNat, by omega⟩
    have HR := Lib.hid (piecesT_nat (s := s) (t := t) (n := N) (by omega))
    go_enter Try.func81, Try.ntmps81
    go_wp2
    go_loopw [7, 8] (fun v i_ wr => ∃ (i g m c : Nat), i ≤ s.size ∧ i_ = .int .i64 (i : Int) ∧ v = .slice (some ⟨g, 0, none⟩) m c ∧ Hid (One w w.heap.size wr 88 3 (some ⟨g, 0, none⟩) m c (entsC (piecesN s t N i)))) (fun _ i_ _ => s.size - (intOf i_).toNat)
    case atStart => exact ⟨0, _, _, _, Nat.zero_le _, rfl, rfl, Lib.hid (One.empty w 88 3)⟩
    case round =>
      obtain ⟨i, g, m, c, hi, rfl, rfl, HO⟩ := hrel
      by_cases hlt : i < s.size
      · have z1 : (i : Int) < (s.size : Int) := by omega
        obtain ⟨wo, rfl⟩ : ∃ wo, wo = wr := ⟨_, rfl⟩
        go_wp2
        go_loopw [7, 9] (fun v j_ wr => ∃ (j g m c : Nat), j ≤ t.size ∧ j_ = .int .i64 (j : Int) ∧ v = .slice (some ⟨g, 0, none⟩) m c ∧ Hid (One w w.heap.size wr 88 3 (some ⟨g, 0, none⟩) m c (entsC (piecesN s t N i ++ rowP s t N i j)))) (fun _ j_ _ => t.size - (intOf j_).toNat)
        case atStart => exact ⟨0, g, m, c, Nat.zero_le _, rfl, rfl, Lib.hid (by rw [rowP_zero, List.append_nil]; exact HO.out)⟩
        case round =>
          obtain ⟨j, g, m, c, hj, rfl, rfl, HO⟩ := hrel
          by_cases hltj : j < t.size
          · have z2 : (j : Int) < (t.size : Int) := by omega
            have hm9 : m ≤ 1099511627776 := by rw [ents_len7 HO.out.own]; exact pieces_room N i j hs ht hlt hj
            rcases grow_ways s t N i j with ⟨hgr, hst⟩ | ⟨r, hgr, hst, hNr, hpc⟩ | ⟨r, hgr, hst, hNr⟩ | ⟨x, y, z, hgr, hst, hxi⟩
            · have cg := fun w => specGrow_any s t i j 0 0 0 false w hgr (by omega) (by omega)
              have HRW := Lib.hid (rowP_no (n := N) hst)
              clear hgr hst
              go_wp2_with fail
              refine (cg _).mono ?_
              rintro e w5 ⟨rfl, b5⟩
              have HO := Lib.hid ((HO.out.later b5).later ((Below.refl _ _).alloc (Nat.le_refl _) (.cells #[.int .i64 0, .int .i64 0, .int .i64 0] 88)))
              clear b5 cg
              go_wp2
              go_roundw
              case rel => exact ⟨j + 1, g, m, c, by omega, by go_num, rfl, Lib.hid (by rw [HRW.out]; exact HO.out)⟩
              case measure => simp [intOf]; omega
            · have cg := fun w => specGrow_any s t i j i j r true w hgr (by omega) (by omega)
              have HRW := Lib.hid (rowP_yes hst)
              have HPC := Lib.hid hpc
              have hNr2 : (N : Int) ≤ (r : Int) := by omega
              clear hgr hst hpc
              go_wp2_with fail
              refine (cg _).mono ?_
              rintro e w5 ⟨rfl, b5⟩
              have HO := Lib.hid ((HO.out.later b5).later ((Below.refl _ _).alloc (Nat.le_refl _) (.cells #[.int .i64 (i : Int), .int .i64 (j : Int), .int .i64 (r : Int)] 88)))
              clear b5 cg
              go_wp2_with (at_builtin; refine wpList_append_row rfl (.tmp 55) (.tmp 57) 46 rfl Try.ulP7 Try.infoP7 rfl (by decide) HO.out rfl #[.int .i64 (i : Int), .int .i64 (j : Int), .int .i64 (r : Int)] (by rw [alloc_size7]; rfl) rfl (by simp [Value.oneCell']) (by unfold maxLen; omega) (by omega) ?_; intro a6 c6 w6 o6)
              obtain ⟨g6, rfl⟩ := o6.addr (by omega)
              go_roundw
              case rel => exact ⟨j + 1, g6, m + 1, c6, by omega, by go_num, rfl, Lib.hid (by rw [HRW.out, HPC.out, ← List.append_assoc, entsC_snoc]; exact o6)⟩
              case measure => simp [intOf]; omega
            · have cg := fun w => specGrow_any s t i j i j r true w hgr (by omega) (by omega)
              have HRW := Lib.hid (rowP_no (n := N) hst)
              have hNr2 : (r : Int) < (N : Int) := by omega
              clear hgr hst
              go_wp2_with fail
              refine (cg _).mono ?_
              rintro e w5 ⟨rfl, b5⟩
              have HO := Lib.hid ((HO.out.later b5).later ((Below.refl _ _).alloc (Nat.le_refl _) (.cells #[.int .i64 (i : Int), .int .i64 (j : Int), .int .i64 (r : Int)] 88)))
              clear b5 cg
              go_wp2
              go_roundw
              case rel => exact ⟨j + 1, g, m, c, by omega, by go_num, rfl, Lib.hid (by rw [HRW.out]; exact HO.out)⟩
              case measure => simp [intOf]; omega
            · have cg := fun w => specGrow_any s t i j x y z true w hgr (by omega) (by omega)
              have HRW := Lib.hid (rowP_no (n := N) hst)
              have hx2 : ((x : Int) == (i : Int)) = false := beq_eq_false_iff_ne.2 (by omega)
              have hx3 : (x == i) = false := beq_eq_false_iff_ne.2 (by omega)
              clear hgr hst
              go_wp2_with fail
              refine (cg _).mono ?_
              rintro e w5 ⟨rfl, b5⟩
              have HO := Lib.hid ((HO.out.later b5).later ((Below.refl _ _).alloc (Nat.le_refl _) (.cells #[.int .i64 (x : Int), .int .i64 (y : Int), .int .i64 (z : Int)] 88)))
              clear b5 cg
              go_wp2
              go_roundw
              case rel => exact ⟨j + 1, g, m, c, by omega, by go_num, rfl, Lib.hid (by rw [HRW.out]; exact HO.out)⟩
              case measure => simp [intOf]; omega
          · obtain rfl : j = t.size := by omega
            have HO := Lib.hid (show One w w.heap.size wr 88 3 (some ⟨g, 0, none⟩) m c (entsC (piecesN s t N (i + 1))) by rw [piecesN_next]; exact HO.out)
            go_wp2
            go_roundw
            case rel => exact ⟨i + 1, g, m, c, by omega, by go_num, rfl, HO⟩
            case measure => simp [intOf]; omega
      · obtain rfl : i = s.size := by omega
        go_wp2
        go_ret
        exact ⟨_, _, _, rfl, by rw [HR.out]; exact HO.out⟩

end Go.Proofs.Ytbnagmjhdnnheaa
